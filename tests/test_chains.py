"""Point 2, and what point 1 says of numbers: what a chain is to all that is handed one."""

import unittest

from drawchain.asking import first
from drawchain.chains import makers
from drawchain.drawing import Drawer
from drawchain.errors import BadChain, NoWhole
from drawchain.notes import read_chain, written
from drawchain.whole import whole
from helper import COUNT, chain, row

MOST = 10 ** 30 - 1


class Chains(unittest.TestCase):
    def accept(self, *chains):
        for good in chains:
            with self.subTest(chain=good):
                self.assertEqual(makers(good)[0], good[0])
                self.assertEqual(set(Drawer(good).drawn()), {0})
                self.assertEqual(first(good, 0)[:2], ([], "more"))
                self.assertEqual(read_chain(written(good)), good)
                if "count" in written(good):
                    self.assertRaises(NoWhole, whole, good)
                else:
                    self.assertIsInstance(whole(good), list)

    def refuse(self, *chains):
        for bad in chains:
            with self.subTest(chain=repr(bad)[:200]):
                self.refuse_one(bad)

    def refuse_one(self, bad):
        for asked in (makers, Drawer, whole, written):
            self.assertRaises(BadChain, asked, bad)
        # Also where the count is refused: the chain is handed in first.
        for many in (0, 3, 1000, -1, 1001, 10 ** 40):
            self.assertRaises(BadChain, first, bad, many)

    def accept_stages(self, *stages):
        self.accept(*[chain(COUNT, stage) for stage in stages])

    def refuse_stages(self, *stages):
        self.refuse(*[chain(COUNT, stage) for stage in stages])
        # A chain within a chain is looked at just as well.
        self.refuse(*[chain(COUNT, ("then", chain(COUNT, stage))) for stage in stages])
        self.refuse(*[chain(row(1), ("both", chain(row(2), stage))) for stage in stages])

    def refuse_makers(self, *bad_makers):
        self.refuse(*[chain(maker) for maker in bad_makers])
        self.refuse(*[chain(COUNT, ("both", chain(maker))) for maker in bad_makers])

    def test_every_maker_and_stage(self):
        self.accept(chain(("count", 3, -2)), chain(row()), chain(row(1, -2, 3)))
        self.accept_stages(
            ("add", -4), ("times", 0), ("keep", 1, 3), ("drop", 3), ("take", 3), ("each", 2),
            ("until", 9), ("unlike",), ("both", chain(COUNT)), ("then", chain(row(1))),
        )

    def test_numbers_have_at_most_thirty_figures(self):
        for edge in (MOST, -MOST):
            beyond = edge + (1 if edge > 0 else -1)
            self.accept(chain(("count", edge, 0)), chain(("count", 0, edge)), chain(row(0, edge)))
            self.accept_stages(("add", edge), ("times", edge), ("until", edge))
            self.refuse_makers(("count", beyond, 0), ("count", 0, beyond), row(0, beyond))
            self.refuse_stages(("add", beyond), ("times", beyond), ("until", beyond))

    def test_true_and_false_are_no_numbers(self):
        self.refuse_makers(("count", True, 1), ("count", 0, False), row(1, True))
        self.refuse_stages(
            ("add", True), ("times", False), ("until", True), ("keep", False, 2),
            ("drop", True), ("take", False), ("each", True),
        )

    def test_a_row_has_at_most_a_hundred_numbers(self):
        self.accept(chain(row(*range(100))))
        self.refuse_makers(row(*range(101)))

    def test_bounds_of_keep(self):
        self.accept_stages(("keep", 0, 2), ("keep", 1, 2), ("keep", 0, 1000), ("keep", 999, 1000))
        self.refuse_stages(
            ("keep", 0, 1), ("keep", 0, 0), ("keep", 0, -2), ("keep", 0, 1001),
            ("keep", -1, 2), ("keep", 2, 2), ("keep", 1000, 1000), ("keep", 1, 1001),
        )

    def test_bounds_of_drop_take_and_each(self):
        self.accept_stages(
            ("drop", 0), ("drop", 100), ("take", 0), ("take", 100), ("each", 1), ("each", 10),
        )
        self.refuse_stages(
            ("drop", -1), ("drop", 101), ("take", -1), ("take", 101),
            ("each", 0), ("each", -1), ("each", 11),
        )

    def test_at_most_four_makers(self):
        one = chain(COUNT)
        self.accept(
            chain(COUNT, ("both", one), ("then", one), ("both", one)),
            chain(COUNT, ("both", chain(COUNT, ("then", chain(COUNT, ("both", one)))))),
            chain(COUNT, ("both", chain(COUNT, ("then", one))), ("then", one)),
        )
        self.refuse(
            chain(COUNT, ("both", one), ("then", one), ("both", one), ("then", one)),
            chain(COUNT, ("both", chain(COUNT, ("then", chain(COUNT, ("both", chain(
                COUNT, ("then", one)))))))),
            chain(COUNT, ("both", chain(COUNT, ("then", one), ("then", one))), ("then", one)),
        )

    def test_at_most_twelve_stages(self):
        def adds(many):
            return (("add", 1),) * many

        self.accept(
            (COUNT, adds(12)),
            (COUNT, adds(5) + (("both", (COUNT, adds(6))),)),
            (COUNT, adds(3) + (("both", (COUNT, adds(3))), ("then", (COUNT, adds(4))))),
        )
        self.refuse(
            (COUNT, adds(13)),
            (COUNT, adds(6) + (("both", (COUNT, adds(6))),)),
            (COUNT, adds(5) + (("both", (COUNT, adds(7))),)),
            (COUNT, adds(3) + (("both", (COUNT, adds(4))), ("then", (COUNT, adds(4))))),
            (COUNT, adds(12) + (("then", chain(COUNT)),)),
        )

    def test_chains_of_another_form(self):
        self.refuse(
            (), (COUNT,), (COUNT, (), ()), ((), ()), ((COUNT,), ()), ("count", 0, 1), COUNT,
            (COUNT, 1), (COUNT, "add"), (COUNT, ("add", 1)), (COUNT, ("unlike",)),
            (COUNT, ((),)), (COUNT, (1,)), (COUNT, ("unlike",)), (COUNT, ((("add", 1),),)),
            ((("add", 1),), COUNT), (1, ()), ("row", ()), ("", ""), (1, 2),
        )

    def test_makers_of_another_form(self):
        self.refuse_makers(
            (), ("count",), ("count", 1), ("count", 1, 2, 3), ("count", (1, 2)),
            ("row",), ("row", 1), ("row", 1, 2), ("row", "12"), ("row", (1,), (2,)), ("row", (), ()),
            ("row", ((1,),)), ("row", ("1",)), ("row", (1, "")), ("count", "1", 2),
            ("count", 1, "2"), ("count", (), 2), ("Count", 1, 2), ("add", 1), ("", 1, 2),
            (0, 1, 2), (1, "count", 2), ("rows", (1,)), "count", "row", 3, (("count", 1, 2),),
        )

    def test_stages_of_another_form(self):
        one = chain(COUNT)
        self.refuse_stages(
            ("adds", 1), ("Add", 1), ("", 1), ("minus", 1), ("count", 1, 2), ("row", (1,)), (1,),
            ((), 1), (("add",), 1), (1, "add"), "add", "unlike", 5, (),
            ("add",), ("add", 1, 2), ("times",), ("times", 1, 2), ("until",), ("until", 1, 2),
            ("keep",), ("keep", 1), ("keep", 1, 2, 3), ("drop",), ("drop", 1, 2),
            ("take",), ("take", 1, 2), ("each",), ("each", 1, 2), ("unlike", 1),
            ("both",), ("both", one, one), ("then",), ("then", one, one),
            ("add", one), ("unlike", one), ("both", 1), ("then", "row"), ("both", COUNT),
            ("then", ()), ("both", (one,)), ("both", (COUNT, 1)),
        )

    def test_lists_are_no_tuples(self):
        self.refuse([COUNT, ()], (COUNT, []), (COUNT, [("unlike",)]))
        self.refuse_makers(["count", 0, 1], ("row", [1]), ["row", (1,)])
        self.refuse_stages(["add", 1], ["unlike"], ("both", [COUNT, ()]))

    def test_a_text_or_tuple_for_a_number(self):
        for wrong in ("1", "", (1,), ()):
            self.refuse_stages(
                ("add", wrong), ("times", wrong), ("until", wrong), ("keep", wrong, 2),
                ("keep", 1, wrong), ("drop", wrong), ("take", wrong), ("each", wrong),
            )

    def test_a_wrong_stage_behind_right_ones(self):
        self.refuse(chain(COUNT, ("add", 1), ("unlike",), ("add",)))
        self.refuse(chain(COUNT, ("both", chain(COUNT)), ("both", chain(("row",)))))
        self.refuse(chain(COUNT, ("both", chain(("row",))), ("both", chain(COUNT))))

    def test_what_is_nested_deeply_is_refused_too(self):
        deep = chain(COUNT)
        for _ in range(5000):
            deep = chain(COUNT, ("both", deep))
        self.refuse_one(deep)


class Makers(unittest.TestCase):
    def test_a_maker_alone(self):
        self.assertEqual(makers(chain(("count", 5, -1), ("add", 2))), [("count", 5, -1)])
        self.assertEqual(makers(chain(row())), [("row", ())])

    def test_its_own_then_those_of_its_stages_in_turn(self):
        inner = chain(row(2), ("add", 1), ("then", chain(row(3))))
        outer = chain(row(1), ("drop", 0), ("both", inner), ("unlike",), ("then", chain(row(4))))
        self.assertEqual(makers(outer), [row(1), row(2), row(3), row(4)])
        nested = chain(row(4), ("both", chain(row(3), ("both", chain(row(2), ("then", chain(row(1))))))))
        self.assertEqual(makers(nested), [row(4), row(3), row(2), row(1)])

    def test_makers_that_are_alike_are_all_told(self):
        self.assertEqual(makers(chain(COUNT, ("both", chain(COUNT)))), [COUNT, COUNT])

    def test_the_list_may_be_changed(self):
        one = chain(COUNT, ("both", chain(row(1))))
        makers(one).clear()
        makers(one).append("more")
        self.assertEqual(makers(one), [COUNT, row(1)])


if __name__ == "__main__":
    unittest.main()
