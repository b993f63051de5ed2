"""Points 8 and 9: whole rows, what has none, and the same numbers by next."""

import unittest
from itertools import islice

from drawchain.chains import makers
from drawchain.drawing import Drawer
from drawchain.errors import NoWhole
from drawchain.whole import whole
from helper import COUNT, END, Maze, Model, chain, row, tell

HUNDRED = row(*range(100))
TENS = ("each", 10), ("each", 10)
TEN_THOUSAND = (HUNDRED, TENS)
ONE_MORE = (HUNDRED, TENS + (("then", chain(row(7))),))


def whole_of(maker, *stages):
    return whole((maker, stages))


class Stages(unittest.TestCase):
    def check(self, maker, *stages, comes):
        self.assertEqual(whole_of(maker, *stages), comes)
        # Point 9: by next the same comes, then the end.
        self.assertEqual(tell(Drawer((maker, stages)), len(comes) + 2), comes + [END, END])

    def test_a_row_alone(self):
        self.check(row(), comes=[])
        self.check(row(3, -1, 3), comes=[3, -1, 3])
        self.check(HUNDRED, comes=list(range(100)))

    def test_add_and_times(self):
        self.check(row(3, -1, 0), ("add", -5), comes=[-2, -6, -5])
        self.check(row(3, -1, 0), ("times", -5), comes=[-15, 5, 0])
        self.check(row(3), ("add", 1), ("times", 2), ("add", 1), comes=[9])
        self.check(row(), ("add", 1), ("times", 2), comes=[])

    def test_numbers_that_come_may_have_more_figures(self):
        most = 10 ** 30 - 1
        self.check(row(most), ("times", -most), ("times", most), comes=[-most ** 3])
        self.check(row(most), ("add", most), comes=[2 * most])

    def test_keep(self):
        self.check(row(0, 1, 2, 3, 4, -1, -2, -3), ("keep", 1, 3), comes=[1, 4, -2])
        self.check(row(0, -1000, 5), ("keep", 0, 1000), comes=[0, -1000])
        self.check(row(2, 4), ("keep", 1, 2), comes=[])

    def test_drop(self):
        self.check(row(1, 2, 3), ("drop", 0), comes=[1, 2, 3])
        self.check(row(1, 2, 3), ("drop", 2), comes=[3])
        self.check(row(1, 2, 3), ("drop", 3), comes=[])
        self.check(row(1, 2, 3), ("drop", 100), comes=[])

    def test_take(self):
        self.check(row(1, 2, 3), ("take", 0), comes=[])
        self.check(row(1, 2, 3), ("take", 2), comes=[1, 2])
        self.check(row(1, 2, 3), ("take", 3), comes=[1, 2, 3])
        self.check(row(1, 2, 3), ("take", 100), comes=[1, 2, 3])

    def test_each(self):
        self.check(row(1, 2), ("each", 1), comes=[1, 2])
        self.check(row(1, 1, 2), ("each", 3), comes=[1] * 6 + [2] * 3)
        self.check(row(), ("each", 10), comes=[])

    def test_until(self):
        self.check(row(1, 2, 5, 1), ("until", 5), comes=[1, 2])
        self.check(row(1, 2, 6, 1), ("until", 5), comes=[1, 2])
        self.check(row(1, 2, 5, 1), ("until", 6), comes=[1, 2, 5, 1])
        self.check(row(1, 2), ("until", 1), comes=[])
        self.check(row(), ("until", 1), comes=[])

    def test_unlike(self):
        self.check(row(1, 1, 2, 1, 1, 1, 3), ("unlike",), comes=[1, 2, 1, 3])
        self.check(row(0, 0), ("unlike",), comes=[0])
        self.check(row(), ("unlike",), comes=[])

    def test_both(self):
        self.check(row(1, 2, 3), ("both", chain(row(10, 20))), comes=[11, 22])
        self.check(row(1, 2), ("both", chain(row(10, 20, 30))), comes=[11, 22])
        self.check(row(1, 2), ("both", chain(row(10, 20))), comes=[11, 22])
        self.check(row(), ("both", chain(row(1))), comes=[])
        self.check(row(1), ("both", chain(row())), comes=[])

    def test_then(self):
        self.check(row(1, 2), ("then", chain(row(3))), comes=[1, 2, 3])
        self.check(row(), ("then", chain(row(3))), comes=[3])
        self.check(row(3), ("then", chain(row())), comes=[3])
        self.check(row(1, 2), ("until", 2), ("then", chain(row(3), ("add", 1))), comes=[1, 4])

    def test_four_makers_and_twelve_stages(self):
        self.check(
            row(1, 2, 3, 4), ("each", 2), ("drop", 1), ("unlike",),
            ("then", chain(row(5, 6), ("times", 2), ("both", chain(row(1, 1, 1), ("add", 1))))),
            ("until", 14), ("keep", 0, 2), ("then", chain(row(9))), ("take", 3), ("add", 100),
            comes=[102, 104, 112])
        self.check(row(1), *[("add", 1)] * 12, comes=[13])


class NoWholes(unittest.TestCase):
    def refuse(self, *chains):
        for one in chains:
            with self.subTest(chain=one):
                self.assertRaises(NoWhole, whole, one)

    def test_a_maker_without_end(self):
        self.refuse(
            chain(COUNT), chain(("count", 1, 0), ("take", 3)), chain(COUNT, ("until", 3)),
            chain(COUNT, ("take", 0)), chain(row(1), ("both", chain(COUNT))),
            chain(row(), ("both", chain(COUNT))), chain(COUNT, ("both", chain(row(1)))),
            chain(row(1), ("then", chain(COUNT, ("take", 1)))),
            chain(row(1), ("take", 0), ("then", chain(row(1), ("both", chain(COUNT)))), ("take", 0)),
            chain(row(1), ("then", chain(row(1))), ("then", chain(row(1))), ("then", chain(COUNT))),
        )

    def test_exactly_10000_and_one_more_at_the_last_stage(self):
        self.assertEqual(whole(TEN_THOUSAND), [at // 100 for at in range(10000)])
        self.refuse(ONE_MORE)
        some = chain(row(*range(91)), ("each", 10), ("each", 10), ("then", chain(row(*range(9)), *TENS)))
        self.assertEqual(len(whole(some)), 10000)
        some = chain(row(*range(91)), ("each", 10), ("each", 10), ("then", chain(row(*range(10)), *TENS)))
        self.refuse(some)

    def test_far_more(self):
        self.refuse((HUNDRED, (("each", 10),) * 12), (HUNDRED, (("each", 10),) * 11 + (("take", 0),)))

    def test_at_an_earlier_stage(self):
        for stage in (("take", 5), ("drop", 100), ("keep", 1, 2), ("unlike",), ("until", 0),
                      ("both", chain(row(1)))):
            self.refuse((HUNDRED, ONE_MORE[1] + (stage,)), (HUNDRED, TENS + (("each", 2), stage)))
            self.assertLess(len(whole((HUNDRED, TENS + (stage,)))), 10000)

    def test_rows_of_10000_at_each_stage(self):
        stages = TENS + (("add", 1), ("times", 2), ("drop", 0), ("keep", 0, 2), ("until", 999))
        self.assertEqual(len(whole((HUNDRED, stages))), 10000)

    def test_in_a_chain_within(self):
        for word in ("both", "then"):
            self.assertIsInstance(whole_of(row(), (word, TEN_THOUSAND)), list)
            self.refuse(
                (row(), ((word, ONE_MORE),)),
                (row(1), ((word, (HUNDRED, ONE_MORE[1] + (("take", 1),))), ("take", 1))),
                (row(1), ((word, chain(row(2), ("both", ONE_MORE))),)),
            )
        self.refuse((row(1), (("then", TEN_THOUSAND),)))
        self.assertEqual(len(whole_of(row(1), ("both", TEN_THOUSAND))), 1)
        self.assertEqual(len(whole((HUNDRED, TENS + (("both", TEN_THOUSAND),)))), 10000)


class Apart(unittest.TestCase):
    """Point 1: told lists may be changed, and what is handed in is not."""

    def test_the_list_may_be_changed(self):
        for stages in ((), (("drop", 0),), (("until", 9),), (("then", chain(row(3))), ("take", 2))):
            one = (row(1, 2), stages)
            told = whole(one)
            told.append(4)
            told[0] = 9
            self.assertEqual(whole(one), [1, 2])
            self.assertEqual(one, (row(1, 2), stages))
            self.assertIsInstance(told, list)


def prefixes(one):
    """All chains that a chain is behind, up to each of its stages, those within too."""
    for many in range(len(one[1]) + 1):
        yield (one[0], one[1][:many])
    for stage in one[1]:
        if stage[0] in ("both", "then"):
            yield from prefixes(stage[1])


class Endless(Model):
    def spend(self, place):
        pass


class GrowingMaze(Maze):
    def stage(self):
        if self.dice.random() < 0.6:
            return ("each", self.dice.randint(5, 10))
        return Maze.stage(self)


class ManyChains(unittest.TestCase):
    def model_whole(self, one):
        if any(maker[0] == "count" for maker in makers(one)):
            return None
        for part in prefixes(one):
            if len(list(islice(Endless(part).flow, 10001))) > 10000:
                return None
        return list(Endless(one).flow)

    def check(self, maze, many):
        """Checks so many chains, and tells how many of them have a whole row."""
        wholes = 0
        for _ in range(many):
            one = maze.whole_chain()
            told = self.model_whole(one)
            if told is None:
                self.assertRaises(NoWhole, whole, one)
            else:
                wholes += 1
                self.assertEqual(whole(one), told, one)
                self.check_by_next(one, told)
        return wholes

    def check_by_next(self, one, numbers):
        drawer = Drawer(one)
        for number in numbers:
            answer = drawer.next()
            if answer == ("long",):
                return
            self.assertEqual(answer, ("number", number), one)
        self.assertIn(drawer.next(), [("end",), ("long",)], one)

    def test_rows(self):
        self.assertGreater(self.check(Maze(26, counts=0), 400), 300)

    def test_rows_that_grow(self):
        wholes = self.check(GrowingMaze(27, counts=0), 300)
        self.assertTrue(100 < wholes < 270, wholes)

    def test_rows_and_counts(self):
        wholes = self.check(Maze(28), 300)
        self.assertTrue(50 < wholes < 250, wholes)


if __name__ == "__main__":
    unittest.main()
