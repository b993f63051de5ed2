"""The interface: each name stands where the document lists it, with the arguments it lists."""

import inspect
import unittest

from drawchain import asking, chains, drawing, errors, notes, whole

LISTED = (
    (errors, "DrawError", None), (errors, "BadChain", None), (errors, "BadMany", None),
    (errors, "NoWhole", None), (errors, "BadText", None),
    (chains, "makers", ["chain"]), (drawing, "Drawer", ["chain"]),
    (asking, "first", ["chain", "many"]), (whole, "whole", ["chain"]),
    (notes, "written", ["chain"]), (notes, "read_chain", ["text"]),
)
METHODS = (("next", []), ("drawn", []), ("undone", []), ("put_back", ["number"]))


class Interface(unittest.TestCase):
    def test_each_name_is_defined_in_its_file(self):
        for module, name, arguments in LISTED:
            listed = getattr(module, name)
            self.assertEqual(listed.__module__, module.__name__)
            if arguments is not None:
                self.assertEqual(list(inspect.signature(listed).parameters), arguments)

    def test_the_methods_stand_in_the_class_itself(self):
        for name, arguments in METHODS:
            method = vars(drawing.Drawer)[name]
            self.assertEqual(list(inspect.signature(method).parameters), ["self"] + arguments)


if __name__ == "__main__":
    unittest.main()
