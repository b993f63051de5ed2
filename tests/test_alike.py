"""Points 3 and 7: chains that do alike tell alike, and what is not drawn changes nothing."""

import unittest

from drawchain.asking import first
from drawchain.chains import makers
from helper import COUNT, Maze, chain, row

MANY = (1, 2, 5, 30, 200)


def with_makers(one, others):
    """The chain with other makers, taken in turn from the front of a list."""
    maker = others.pop(0)
    stages = []
    for stage in one[1]:
        if stage[0] in ("both", "then"):
            stage = (stage[0], with_makers(stage[1], others))
        stages.append(stage)
    return (maker, tuple(stages))


class Alike(unittest.TestCase):
    """Each pair of stages stands within one and the same chain, for many chains."""

    def check(self, stages, others):
        maze = Maze(23)
        for _ in range(60):
            maker, ahead = maze.whole_chain(makers=2, stages=4)
            behind = maze.whole_chain(makers=2, stages=4)[1]
            for many in MANY:
                told = first((maker, ahead + stages + behind), many)
                self.assertEqual(told, first((maker, ahead + others + behind), many))

    def test_drop_behind_drop(self):
        for one, other in ((0, 0), (1, 2), (3, 0), (0, 4), (30, 70), (50, 50)):
            self.check((("drop", one), ("drop", other)), (("drop", one + other),))

    def test_take_behind_take(self):
        for one, other in ((0, 3), (3, 0), (2, 5), (5, 2), (4, 4), (99, 100)):
            self.check((("take", one), ("take", other)), (("take", min(one, other)),))

    def test_add_behind_add(self):
        for one, other in ((1, 2), (-5, 5), (7, -9), (10 ** 29, 1)):
            self.check((("add", one), ("add", other)), (("add", one + other),))

    def test_times_behind_times(self):
        self.check((("times", 2), ("times", -3)), (("times", -6),))

    def test_stages_that_change_nothing(self):
        for stage in (("each", 1), ("add", 0), ("drop", 0), ("times", 1)):
            self.check((stage,), ())

    def test_stages_that_tell_the_same_a_second_time(self):
        for stage in (("unlike",), ("keep", 1, 3), ("until", 4)):
            self.check((stage, stage), (stage,))

    def test_empty_rows_ahead_and_behind(self):
        empty = chain(row())
        maze = Maze(24)
        for _ in range(300):
            one = maze.whole_chain(makers=3, stages=11)
            for many in MANY:
                told, word, drawn = first(one, many)
                self.assertEqual(
                    first((one[0], one[1] + (("then", empty),)), many), (told, word, drawn + [0]))
                self.assertEqual(
                    first((row(), (("then", one),)), many), (told, word, [0] + drawn))


class Behind(unittest.TestCase):
    """Point 7: makers that are other ones only behind what was drawn of them."""

    def test_rows_and_counts_that_begin_alike(self):
        for maker in (COUNT, row(0, 1, 2), row(0, 1, 2, -9, -9), row(0, 1, 2, 0)):
            self.assertEqual(first((maker, (("take", 3),)), 4), ([0, 1, 2], "end", [3]))
            self.assertEqual(first((maker, (("until", 2),)), 4), ([0, 1], "end", [3]))
            self.assertEqual(first((maker, (("drop", 1),)), 2), ([1, 2], "more", [3]))
            self.assertEqual(first((maker, (("each", 2),)), 6), ([0, 0, 1, 1, 2, 2], "more", [3]))
            one = (row(5, 5), (("both", chain(maker, ("drop", 1))),))
            self.assertEqual(first(one, 3), ([6, 7], "end", [2, 3]))
            one = (row(5, 5), (("then", chain(maker, ("unlike",))),))
            self.assertEqual(first(one, 5), ([5, 5, 0, 1, 2], "more", [2, 3]))

    def test_makers_that_are_not_drawn(self):
        for maker in (COUNT, row(), row(3)):
            self.assertEqual(first((maker, (("take", 0),)), 1), ([], "end", [0]))
            self.assertEqual(first((row(), (("both", chain(maker)),)), 1), ([], "end", [0, 0]))
            self.assertEqual(first((row(8), (("then", chain(maker)),)), 1), ([8], "more", [1, 0]))

    def test_a_row_told_to_have_ended_is_drawn_to_its_end(self):
        self.assertEqual(first(chain(row(1, 2), ("drop", 3)), 1), ([], "end", [2]))
        self.assertEqual(first(chain(row(1, 2, 3, 4), ("drop", 3)), 1), ([4], "more", [4]))

    def changed(self, maker, drawn, ends, dice):
        numbers = maker[1] if maker[0] == "row" else tuple(
            maker[1] + at * maker[2] for at in range(drawn))
        # Of a row drawn to its end nobody can say here whether it was told to have ended.
        if drawn > 99 or maker[0] == "row" and drawn == len(numbers):
            return maker
        others = dice.randint(0 if ends else 1, 100 - drawn)
        return row(*numbers[:drawn], *[dice.randint(-9, 9) for _ in range(others)])

    def test_many_chains_with_other_makers(self):
        maze = Maze(25)
        words = {"more": 0, "end": 0, "long": 0}
        for _ in range(1500):
            one = maze.whole_chain()
            many = maze.dice.choice((1, 2, 5, 40))
            told = first(one, many)
            # A row that ends where a long draw stopped is an end instead (point 4).
            others = [
                self.changed(maker, drawn, told[1] != "long", maze.dice)
                for maker, drawn in zip(makers(one), told[2])]
            other = with_makers(one, list(others))
            self.assertEqual(makers(other), others)
            self.assertEqual(first(other, many), told, (one, other))
            words[told[1]] += other != one
        self.assertGreater(min(words.values()), 10, words)


if __name__ == "__main__":
    unittest.main()
