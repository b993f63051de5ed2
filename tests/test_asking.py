"""Point 6, and what point 1 says of it: first, its three parts, and its counts."""

import unittest

from drawchain.asking import first
from drawchain.drawing import Drawer
from drawchain.errors import BadMany
from helper import COUNT, Maze, Model, chain, row

EVENS = ("count", 0, 2)
ODD = ("keep", 1, 2)


def first_of(maker, *stages, many):
    return first((maker, stages), many)


class First(unittest.TestCase):
    def test_more(self):
        self.assertEqual(first_of(COUNT, ("add", 5), many=3), ([5, 6, 7], "more", [3]))
        self.assertEqual(first_of(COUNT, ("keep", 2, 5), many=2), ([2, 7], "more", [8]))

    def test_end(self):
        self.assertEqual(first_of(row(4, 5), many=3), ([4, 5], "end", [2]))
        self.assertEqual(first_of(COUNT, ("until", 2), many=9), ([0, 1], "end", [3]))
        self.assertEqual(first_of(COUNT, ("take", 2), many=9), ([0, 1], "end", [2]))
        self.assertEqual(first_of(row(), many=1), ([], "end", [0]))

    def test_long(self):
        self.assertEqual(first_of(EVENS, ODD, many=5), ([], "long", [200]))
        self.assertEqual(
            first_of(row(1, 3), ("then", chain(EVENS)), ODD, many=9), ([1, 3], "long", [2, 200]))

    def test_it_stops_at_the_first_that_tells_none(self):
        # A second next behind the long one would draw no more, but behind an end neither.
        self.assertEqual(first_of(EVENS, ODD, many=1000), ([], "long", [200]))
        self.assertEqual(first_of(row(4, 5), many=1000), ([4, 5], "end", [2]))

    def test_as_many_as_there_are_is_more(self):
        self.assertEqual(first_of(row(4, 5), many=2), ([4, 5], "more", [2]))
        self.assertEqual(first_of(COUNT, ("until", 2), many=2), ([0, 1], "more", [2]))
        self.assertEqual(
            first_of(row(1), ("then", chain(EVENS)), ODD, many=1), ([1], "more", [1, 0]))

    def test_none_asked_draws_nothing(self):
        for one in (chain(COUNT), chain(row()), chain(EVENS, ODD), chain(row(1), ("take", 0))):
            self.assertEqual(first(one, 0), ([], "more", [0]))

    def test_exactly_200_drawn_for_one_number(self):
        self.assertEqual(first_of(COUNT, ("keep", 199, 200), many=1), ([199], "more", [200]))
        self.assertEqual(first_of(COUNT, ("keep", 200, 201), many=1), ([], "long", [200]))
        hundred = row(*range(0, 200, 2))
        two = (hundred, ("then", chain(hundred)))
        self.assertEqual(first_of(*two, ODD, many=1), ([], "end", [100, 100]))
        self.assertEqual(
            first_of(*two, ("then", chain(row(1))), ODD, many=1), ([], "long", [100, 100, 0]))

    def test_drawn_of_each_maker(self):
        one = chain(
            COUNT, ("drop", 2), ("both", chain(row(1, 1, 1), ("each", 2))),
            ("then", chain(("count", 7, 0))), ("take", 8))
        self.assertEqual(first(one, 1), ([3], "more", [3, 1, 0]))
        self.assertEqual(first(one, 6), ([3, 4, 5, 6, 7, 8], "more", [8, 3, 0]))
        self.assertEqual(first(one, 7), ([3, 4, 5, 6, 7, 8, 7], "more", [9, 3, 1]))
        self.assertEqual(first(one, 9), ([3, 4, 5, 6, 7, 8, 7, 7], "end", [9, 3, 2]))

    def test_a_thousand(self):
        self.assertEqual(first(chain(COUNT), 1000), (list(range(1000)), "more", [1000]))
        self.assertEqual(first(chain(COUNT), 999), (list(range(999)), "more", [999]))
        told, word, drawn = first(chain(row(*range(100)), ("each", 10)), 1000)
        self.assertEqual((len(told), word, drawn), (1000, "more", [100]))

    def test_other_counts_are_refused(self):
        for many in (-1, 1001, -1000, 10 ** 6, 10 ** 40, -10 ** 40):
            for one in (chain(COUNT), chain(row()), chain(EVENS, ODD)):
                with self.subTest(many=many):
                    self.assertRaises(BadMany, first, one, many)

    def test_the_kinds_of_its_parts(self):
        told = first(chain(COUNT), 2)
        self.assertEqual([part.__class__ for part in (told, *told)], [tuple, list, str, list])


class Apart(unittest.TestCase):
    """Point 1: told lists may be changed, and what is refused changes nothing."""

    def test_asked_again_it_tells_the_same(self):
        one = chain(row(1, 2, 3), ("both", chain(COUNT)), ("take", 3))
        told, _, drawn = first(one, 2)
        told.append(9)
        told[0] = drawn[0] = 77
        drawn.clear()
        self.assertRaises(BadMany, first, one, 1001)
        self.assertEqual(first(one, 2), ([1, 3], "more", [2, 2]))
        self.assertEqual(one, chain(row(1, 2, 3), ("both", chain(COUNT)), ("take", 3)))

    def test_other_drawers_are_left_as_they_are(self):
        one = chain(COUNT, ("until", 3))
        drawer = Drawer(one)
        drawer.next()
        first(one, 10)
        self.assertEqual((drawer.next(), drawer.drawn(), drawer.undone()), (("number", 1), [2], []))


class ManyChains(unittest.TestCase):
    def model_told(self, one, many):
        model = Model(one)
        told = []
        for _ in range(many):
            answer = model.next()
            if answer[0] != "number":
                return told, answer[0], model.counts
            told.append(answer[1])
        return told, "more", model.counts

    def test_first_tells_what_the_model_tells(self):
        maze = Maze(21)
        words = {"more": 0, "end": 0, "long": 0}
        for _ in range(500):
            one = maze.whole_chain()
            for many in (0, 1, 2, maze.dice.randint(3, 999), 1000):
                told = first(one, many)
                self.assertEqual(told, self.model_told(one, many), (one, many))
                words[told[1]] += 1
        self.assertGreater(min(words.values()), 30, words)

    def test_fewer_draw_no_more_and_tell_the_same_ahead(self):
        maze = Maze(22)
        for _ in range(300):
            one = maze.whole_chain()
            told, _, drawn = first(one, 0)
            for many in range(1, 40):
                more, _, more_drawn = first(one, many)
                self.assertEqual(more[:len(told)], told)
                self.assertTrue(all(a <= b for a, b in zip(drawn, more_drawn)), one)
                told, drawn = more, more_drawn


if __name__ == "__main__":
    unittest.main()
