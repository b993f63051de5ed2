"""Point 3: how a maker and each stage draws and tells, what has ended, what is undone."""

import unittest

from drawchain.drawing import Drawer
from helper import COUNT, END, LONG, chain, row, tell, told_of


class MakersTell(unittest.TestCase):
    def test_count_goes_on_without_end(self):
        self.assertEqual(told_of(("count", 5, 3), many=4), ([5, 8, 11, 14], [4], []))
        self.assertEqual(told_of(("count", 1, -2), many=3), ([1, -1, -3], [3], []))
        self.assertEqual(told_of(("count", 7, 0), many=300)[0], [7] * 300)

    def test_row_ends_and_stays_ended(self):
        self.assertEqual(told_of(row(4, -1), many=4), ([4, -1, END, END], [2], []))

    def test_row_without_numbers(self):
        self.assertEqual(told_of(row(), many=2), ([END, END], [0], []))


class PlainStages(unittest.TestCase):
    def test_add_and_times(self):
        self.assertEqual(told_of(row(1, -2), ("add", 5), many=3), ([6, 3, END], [2], []))
        self.assertEqual(told_of(row(1, -2), ("times", -3), many=3), ([-3, 6, END], [2], []))
        self.assertEqual(told_of(row(1, 2), ("add", 1), ("times", 10), many=2)[0], [20, 30])
        self.assertEqual(told_of(row(1, 2), ("times", 10), ("add", 1), many=2)[0], [11, 21])

    def test_zero_is_a_number_like_any_other(self):
        self.assertEqual(
            told_of(row(5, 6), ("times", 0), ("add", 0), ("each", 2), ("then", chain(row(0))), many=6),
            ([0, 0, 0, 0, 0, END], [2, 1], []))
        self.assertEqual(
            told_of(row(0, 0), ("drop", 1), ("both", chain(row(0))), ("take", 5), many=2),
            ([0, END], [2, 1], []))

    def test_keep_draws_until_one_is_kept(self):
        self.assertEqual(told_of(COUNT, ("keep", 2, 5), many=1), ([2], [3], []))
        self.assertEqual(told_of(COUNT, ("keep", 2, 5), many=3), ([2, 7, 12], [13], []))
        self.assertEqual(told_of(row(1, 2, 3), ("keep", 0, 2), many=3), ([2, END, END], [3], []))

    def test_keep_takes_rests_of_numbers_below_0_from_0_on(self):
        self.assertEqual(
            told_of(("count", 0, -1), ("keep", 1, 3), many=3), ([-2, -5, -8], [9], []))
        self.assertEqual(told_of(row(-1, -2, -3, -4), ("keep", 0, 4), many=2), ([-4, END], [4], []))
        self.assertEqual(told_of(row(-1), ("keep", 999, 1000), many=1)[0], [-1])

    def test_drop_lets_go_only_as_it_is_drawn_from(self):
        drawer = Drawer(chain(COUNT, ("drop", 3)))
        self.assertEqual(drawer.drawn(), [0])
        self.assertEqual(tell(drawer, 1), [3])
        self.assertEqual(drawer.drawn(), [4])
        self.assertEqual(tell(drawer, 2), [4, 5])
        self.assertEqual((drawer.drawn(), drawer.undone()), ([6], []))

    def test_drop_of_0_and_drop_of_more_than_there_is(self):
        self.assertEqual(told_of(COUNT, ("drop", 0), many=2), ([0, 1], [2], []))
        self.assertEqual(told_of(row(1, 2), ("drop", 2), many=2), ([END, END], [2], []))
        self.assertEqual(told_of(row(1, 2), ("drop", 3), many=2), ([END, END], [2], []))

    def test_take_ends_without_drawing(self):
        self.assertEqual(told_of(COUNT, ("take", 2), many=2), ([0, 1], [2], []))
        self.assertEqual(told_of(COUNT, ("take", 2), many=5), ([0, 1, END, END, END], [2], []))
        self.assertEqual(told_of(COUNT, ("take", 0), many=2), ([END, END], [0], []))
        self.assertEqual(told_of(row(1), ("take", 3), many=3), ([1, END, END], [1], []))

    def test_take_all_of_a_long_draw_ends_without_it(self):
        never = ("keep", 1, 2)
        self.assertEqual(
            told_of(("count", 0, 2), never, ("take", 0), many=1), ([END], [0], []))
        self.assertEqual(told_of(("count", 0, 2), never, ("take", 1), many=1), ([LONG], [200], []))

    def test_each_draws_only_where_it_needs_one(self):
        drawer = Drawer(chain(COUNT, ("each", 3)))
        for told, drawn in ((0, 1), (0, 1), (0, 1), (1, 2), (1, 2), (1, 2), (2, 3)):
            self.assertEqual(tell(drawer, 1), [told])
            self.assertEqual(drawer.drawn(), [drawn])

    def test_each_of_1_and_each_at_an_end(self):
        self.assertEqual(told_of(row(4, 5), ("each", 1), many=4), ([4, 5, END, END], [2], []))
        self.assertEqual(told_of(row(4), ("each", 2), many=5), ([4, 4, END, END, END], [1], []))
        # The take has told all it may; the each still owes what it has drawn.
        self.assertEqual(told_of(COUNT, ("take", 1), ("each", 3), many=4), ([0, 0, 0, END], [1], []))

    def test_until_ends_at_the_first_that_is_not_less(self):
        self.assertEqual(told_of(COUNT, ("until", 2), many=4), ([0, 1, END, END], [3], [2]))
        self.assertEqual(told_of(row(1, 9, 0), ("until", 3), many=5)[1:], ([2], [9]))
        self.assertEqual(told_of(row(1, 2), ("until", 3), many=4), ([1, 2, END, END], [2], []))
        self.assertEqual(told_of(row(-5), ("until", -5), many=2), ([END, END], [1], [-5]))

    def test_until_undoes_the_number_as_it_drew_it(self):
        self.assertEqual(told_of(row(3), ("times", 7), ("until", 10), ("add", 1), many=1)[2], [21])

    def test_unlike_compares_with_the_last_one_told(self):
        self.assertEqual(
            told_of(row(1, 1, 2, 2, 2, 1, 3), ("unlike",), many=5), ([1, 2, 1, 3, END], [7], []))
        drawer = Drawer(chain(row(0, 0, 0, 5), ("unlike",)))
        self.assertEqual((tell(drawer, 1), drawer.drawn()), ([0], [1]))
        self.assertEqual((tell(drawer, 1), drawer.drawn()), ([5], [4]))

    def test_unlike_at_an_end(self):
        self.assertEqual(told_of(row(1, 1), ("unlike",), many=3), ([1, END, END], [2], []))
        self.assertEqual(told_of(row(), ("unlike",), many=1), ([END], [0], []))


class StagesWithChains(unittest.TestCase):
    def test_both_draws_one_of_each(self):
        self.assertEqual(
            told_of(row(1, 2), ("both", chain(("count", 10, 10))), many=2), ([11, 22], [2, 2], []))

    def test_both_draws_the_first_one_first(self):
        # Behind 150 of its own only 50 are left for the chain, so that is not drawn on.
        self.assertEqual(
            told_of(COUNT, ("keep", 149, 150), ("both", chain(COUNT, ("drop", 100))), many=1),
            ([LONG], [150, 50], []))

    def test_both_where_the_first_ends(self):
        self.assertEqual(
            told_of(row(1), ("both", chain(COUNT)), many=3), ([1, END, END], [1, 1], []))
        self.assertEqual(told_of(row(), ("both", chain(COUNT)), many=2), ([END, END], [0, 0], []))
        self.assertEqual(
            told_of(COUNT, ("take", 1), ("both", chain(COUNT)), many=3), ([0, END, END], [1, 1], []))

    def test_both_where_the_other_ends(self):
        self.assertEqual(
            told_of(COUNT, ("both", chain(row(5))), many=4), ([5, END, END, END], [2, 1], [1]))
        self.assertEqual(
            told_of(("count", 3, 1), ("add", 4), ("both", chain(row())), many=2),
            ([END, END], [1, 0], [7]))

    def test_undone_of_both_and_of_its_chain_in_turn(self):
        other = chain(("count", 50, 1), ("until", 50))
        self.assertEqual(
            told_of(COUNT, ("both", other), many=3), ([END, END, END], [1, 1], [50, 0]))

    def test_then_goes_over_to_its_chain_at_once(self):
        self.assertEqual(
            told_of(row(1, 2), ("then", chain(("count", 7, 1))), many=4), ([1, 2, 7, 8], [2, 2], []))
        self.assertEqual(
            told_of(row(), ("then", chain(row(7))), many=3), ([7, END, END], [0, 1], []))
        self.assertEqual(
            told_of(row(1), ("then", chain(row())), many=3), ([1, END, END], [1, 0], []))

    def test_then_does_not_draw_its_chain_early(self):
        self.assertEqual(told_of(row(1, 2), ("then", chain(COUNT)), many=2), ([1, 2], [2, 0], []))

    def test_then_behind_each_kind_of_end(self):
        more = ("then", chain(("count", 100, 1)))
        self.assertEqual(
            told_of(COUNT, ("until", 1), more, many=4), ([0, 100, 101, 102], [2, 3], [1]))
        self.assertEqual(told_of(COUNT, ("take", 1), more, many=3), ([0, 100, 101], [1, 2], []))
        self.assertEqual(
            told_of(COUNT, ("both", chain(row())), more, many=2), ([100, 101], [1, 0, 2], [0]))
        self.assertEqual(told_of(row(2, 2), ("drop", 5), more, many=2), ([100, 101], [2, 2], []))

    def test_then_behind_then(self):
        self.assertEqual(
            told_of(row(1), ("then", chain(row(2))), ("then", chain(row(3))), many=5),
            ([1, 2, 3, END, END], [1, 1, 1], []))

    def test_stages_behind_then_do_not_end_with_the_first(self):
        self.assertEqual(
            told_of(row(1, 2), ("then", chain(row(2, 3))), ("unlike",), ("each", 2), many=7),
            ([1, 1, 2, 2, 3, 3, END], [2, 2], []))

    def test_chains_within_chains(self):
        inmost = chain(row(1000, 2000), ("each", 2))
        inner = chain(row(100), ("then", inmost), ("add", 7))
        whole = (COUNT, ("keep", 0, 2), ("both", inner), ("then", chain(row(-1))))
        self.assertEqual(
            told_of(*whole, many=8),
            ([107, 1009, 1011, 2013, 2015, -1, END, END], [11, 1, 2, 1], [10]))

    def test_what_has_ended_draws_nothing_when_it_is_drawn_from_again(self):
        for stage in (("until", 3), ("both", chain(row(1, 2, 3)))):
            drawer = Drawer(chain(COUNT, stage, ("then", chain(COUNT))))
            tell(drawer, 50)
            self.assertEqual(drawer.drawn()[0], 4)
            self.assertEqual(len(drawer.undone()), 1)

    def test_stages_behind_an_end_have_ended(self):
        for stage in (
            ("add", 1), ("times", 2), ("keep", 0, 2), ("drop", 1), ("take", 9), ("each", 2),
            ("until", 9), ("unlike",), ("both", chain(COUNT)),
        ):
            with self.subTest(stage=stage):
                told, drawn, undone = told_of(row(), stage, many=3)
                self.assertEqual((told, sum(drawn), undone), ([END] * 3, 0, []))


if __name__ == "__main__":
    unittest.main()
