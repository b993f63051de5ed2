"""Points 4 and 5, and what point 1 says of drawers: next, drawn, undone, put_back."""

import unittest

from drawchain.drawing import Drawer
from drawchain.errors import BadChain
from helper import COUNT, END, LONG, chain, row, tell, told_of

NONE_KEPT = ("keep", 1, 2)
EVENS = ("count", 0, 2)
HUNDRED = row(*range(0, 200, 2))


class Next(unittest.TestCase):
    def test_its_three_words(self):
        drawer = Drawer(chain(row(8)))
        self.assertEqual(drawer.next(), ("number", 8))
        self.assertEqual(drawer.next(), ("end",))
        self.assertEqual(Drawer(chain(EVENS, NONE_KEPT)).next(), ("long",))

    def test_the_interface_stands_in_the_class(self):
        for name in ("next", "drawn", "undone", "put_back"):
            self.assertIn(name, vars(Drawer))

    def test_some_hundred_nexts(self):
        self.assertEqual(told_of(COUNT, ("add", 1), many=700), (list(range(1, 701)), [700], []))

    def test_exactly_200_and_one_more(self):
        self.assertEqual(told_of(COUNT, ("keep", 199, 200), many=1), ([199], [200], []))
        self.assertEqual(told_of(COUNT, ("keep", 200, 201), many=1), ([LONG], [200], []))

    def test_the_bound_is_for_one_next(self):
        self.assertEqual(
            told_of(COUNT, ("keep", 199, 200), many=3), ([199, 399, 599], [600], []))
        self.assertEqual(
            told_of(row(1), ("then", chain(EVENS)), ("keep", 1, 2), many=3),
            ([1, LONG, LONG], [1, 200], []))

    def test_a_long_draw_stays_long_and_draws_nothing(self):
        # Two hundred numbers more would reach the one that is kept.
        drawer = Drawer(chain(COUNT, ("keep", 300, 301)))
        self.assertEqual(tell(drawer, 100), [LONG] * 100)
        self.assertEqual(drawer.drawn(), [200])

    def test_makers_are_bounded_all_together(self):
        both = ("both", chain(COUNT, ("drop", 99)))
        self.assertEqual(told_of(COUNT, ("drop", 99), both, many=1), ([198], [100, 100], []))
        self.assertEqual(
            told_of(COUNT, ("drop", 100), both, many=1), ([LONG], [101, 99], []))

    def test_an_end_is_no_number_drawn(self):
        # 200 numbers are drawn of two rows; that they ended does not make it long.
        two = (HUNDRED, ("then", chain(HUNDRED)))
        self.assertEqual(told_of(*two, NONE_KEPT, many=2), ([END, END], [100, 100], []))
        self.assertEqual(
            told_of(*two, ("then", chain(row())), NONE_KEPT, many=1), ([END], [100, 100, 0], []))
        self.assertEqual(
            told_of(*two, ("then", chain(row(2))), NONE_KEPT, many=1), ([LONG], [100, 100, 0], []))
        self.assertEqual(
            told_of(*two, ("then", chain(row(1))), NONE_KEPT, many=1), ([LONG], [100, 100, 0], []))

    def test_a_long_draw_in_each_stage_that_draws_on(self):
        for stages in (
            (("times", 0), ("unlike",), ("drop", 1)),
            (("drop", 100), ("drop", 100)),
            (NONE_KEPT, ("add", 1), ("each", 3)),
        ):
            self.assertEqual(told_of(EVENS, *stages, many=2), ([LONG, LONG], [200], []))

    def test_a_number_that_is_told_again_is_drawn_once(self):
        drops = (("drop", 100),) * 3
        self.assertEqual(told_of(COUNT, ("each", 10), *drops, many=1), ([30], [31], []))


class Undone(unittest.TestCase):
    def test_it_grows_in_turn(self):
        drawer = Drawer(chain(
            COUNT, ("until", 1), ("then", chain(("count", 10, 1), ("until", 11))),
            ("then", chain(COUNT, ("drop", 20), ("both", chain(row()))))))
        self.assertEqual(drawer.undone(), [])
        self.assertEqual((tell(drawer, 1), drawer.undone()), ([0], []))
        self.assertEqual((tell(drawer, 1), drawer.undone()), ([10], [1]))
        self.assertEqual((tell(drawer, 1), drawer.undone()), ([END], [1, 11, 20]))
        self.assertEqual((tell(drawer, 5), drawer.undone()), ([END] * 5, [1, 11, 20]))

    def test_what_is_let_go_is_not_undone(self):
        self.assertEqual(told_of(COUNT, ("drop", 5), ("keep", 0, 2), ("unlike",), many=3)[2], [])

    def test_undone_in_a_next_that_is_long(self):
        # The until ends at the first number; the then behind it draws the other 199.
        self.assertEqual(
            told_of(row(9), ("until", 9), ("then", chain(EVENS)), NONE_KEPT, many=2),
            ([LONG, LONG], [1, 199], [9]))

    def test_numbers_that_a_long_draw_stopped_at_are_not_undone(self):
        self.assertEqual(
            told_of(COUNT, ("both", chain(EVENS, NONE_KEPT)), many=2), ([LONG, LONG], [1, 199], []))


class PutBack(unittest.TestCase):
    def test_the_last_one_first_ahead_of_all_else(self):
        drawer = Drawer(chain(COUNT, ("add", 100)))
        self.assertEqual(tell(drawer, 1), [100])
        self.assertIsNone(drawer.put_back(1))
        drawer.put_back(2)
        drawer.put_back(0)
        self.assertEqual((tell(drawer, 2), drawer.drawn()), ([0, 2], [1]))
        drawer.put_back(3)
        self.assertEqual((tell(drawer, 2), drawer.drawn()), ([3, 1], [1]))
        self.assertEqual((tell(drawer, 2), drawer.drawn()), ([101, 102], [3]))

    def test_before_the_first_next(self):
        drawer = Drawer(chain(row(1)))
        drawer.put_back(-7)
        self.assertEqual((drawer.next(), drawer.drawn()), (("number", -7), [0]))
        self.assertEqual(tell(drawer, 2), [1, END])

    def test_stages_do_not_see_what_is_put_back(self):
        drawer = Drawer(chain(row(1, 1, 2), ("unlike",), ("take", 2)))
        tell(drawer, 1)
        drawer.put_back(2)
        drawer.put_back(2)
        self.assertEqual(tell(drawer, 4), [2, 2, 2, END])

    def test_behind_an_end(self):
        drawer = Drawer(chain(COUNT, ("until", 0)))
        self.assertEqual(tell(drawer, 2), [END, END])
        drawer.put_back(4)
        drawer.put_back(5)
        self.assertEqual(tell(drawer, 4), [5, 4, END, END])
        self.assertEqual((drawer.drawn(), drawer.undone()), ([1], [0]))

    def test_behind_a_long_draw(self):
        drawer = Drawer(chain(EVENS, NONE_KEPT))
        self.assertEqual(tell(drawer, 2), [LONG, LONG])
        drawer.put_back(4)
        drawer.put_back(5)
        self.assertEqual(tell(drawer, 4), [5, 4, LONG, LONG])
        self.assertEqual((drawer.drawn(), drawer.undone()), ([200], []))


class Apart(unittest.TestCase):
    """Point 1: nothing is changed or kept, and lists that are told may be changed."""

    def test_lists_told_may_be_changed(self):
        drawer = Drawer(chain(COUNT, ("both", chain(row(1)))))
        tell(drawer, 3)
        for told in (drawer.drawn(), drawer.undone()):
            told.append(99)
            told[0] = -1
        self.assertEqual((drawer.drawn(), drawer.undone()), ([2, 1], [1]))
        drawer.drawn().clear()
        drawer.undone().clear()
        self.assertEqual((drawer.drawn(), drawer.undone()), ([2, 1], [1]))

    def test_a_list_told_does_not_follow_the_drawer(self):
        drawer = Drawer(chain(COUNT, ("until", 1)))
        drawn, undone = drawer.drawn(), drawer.undone()
        tell(drawer, 3)
        self.assertEqual((drawn, undone), ([0], []))

    def test_two_drawers_of_one_chain(self):
        one = chain(
            row(1, 2, 3), ("each", 2), ("unlike",), ("drop", 1),
            ("both", chain(("count", 10, 10), ("until", 20))))
        first, second = Drawer(one), Drawer(one)
        first.put_back(77)
        self.assertEqual(tell(first, 4), [77, 12, END, END])
        first.drawn().append(1)
        self.assertEqual((second.drawn(), second.undone()), ([0, 0], []))
        self.assertEqual(tell(second, 3), [12, END, END])
        self.assertEqual((second.drawn(), second.undone()), (first.drawn(), first.undone()))

    def test_a_long_draw_of_one_does_not_stop_the_other(self):
        one = chain(row(1), ("then", chain(EVENS)), NONE_KEPT)
        first, second = Drawer(one), Drawer(one)
        self.assertEqual(tell(first, 2), [1, LONG])
        self.assertEqual(tell(second, 1), [1])

    def test_the_chain_is_not_changed(self):
        one = chain(row(1, 2), ("each", 2), ("then", chain(COUNT, ("take", 1))))
        same = chain(("row", (1, 2)), ("each", 2), ("then", (("count", 0, 1), (("take", 1),))))
        tell(Drawer(one), 20)
        self.assertEqual(one, same)

    def test_a_refused_drawer_leaves_the_others_as_they_are(self):
        drawer = Drawer(chain(COUNT, ("both", chain(COUNT))))
        tell(drawer, 2)
        self.assertRaises(BadChain, Drawer, chain(COUNT, ("both", chain(COUNT)), ("add",)))
        self.assertEqual((drawer.drawn(), tell(drawer, 1)), ([2, 2], [4]))


if __name__ == "__main__":
    unittest.main()
