import unittest

from drawchain.errors import BadChain, BadMany, BadText, DrawError, NoWhole


class Errors(unittest.TestCase):
    def test_a_refusal_is_a_value_error(self):
        self.assertEqual(DrawError.__bases__, (ValueError,))

    def test_each_refusal_stands_right_under_draw_error(self):
        for refusal in (BadChain, BadMany, NoWhole, BadText):
            self.assertEqual(refusal.__bases__, (DrawError,))

    def test_bad_text_has_its_place(self):
        self.assertEqual(BadText(0).place, 0)
        with self.assertRaises(DrawError) as caught:
            raise BadText(7)
        self.assertEqual(caught.exception.place, 7)

    def test_all_are_defined_here(self):
        for refusal in (DrawError, BadChain, BadMany, NoWhole, BadText):
            self.assertEqual(refusal.__module__, "drawchain.errors")


if __name__ == "__main__":
    unittest.main()
