"""Points 3 to 5 at once: many chains, drawn by the program and by the model."""

import random
import unittest

from drawchain.chains import makers
from drawchain.drawing import Drawer
from helper import Model

CHAINS = 1500
NEXTS = 120


class Maze:
    """Makes chains; the same ones in each run, as the seed is the same."""

    def __init__(self, seed):
        self.dice = random.Random(seed)
        self.makers_left = 0
        self.stages_left = 0

    def whole_chain(self):
        self.makers_left = self.dice.randint(1, 4)
        self.stages_left = self.dice.randint(0, 12)
        return self.part()

    def part(self):
        self.makers_left -= 1
        maker = self.maker()
        stages = []
        while self.stages_left and self.dice.random() < 0.85:
            self.stages_left -= 1
            stages.append(self.stage())
        return (maker, tuple(stages))

    def maker(self):
        dice = self.dice
        if dice.random() < 0.4:
            return ("count", dice.randint(-9, 9), dice.randint(-3, 3))
        many = dice.choice((0, 1, 2, 5, 12, 40, 100))
        return ("row", tuple(dice.randint(-6, 6) for _ in range(many)))

    def stage(self):
        dice = self.dice
        if self.makers_left and dice.random() < 0.35:
            return (dice.choice(("both", "then")), self.part())
        wheel = dice.choice((2, 3, 5))
        return dice.choice((
            ("add", dice.randint(-5, 5)),
            ("times", dice.choice((-1, 0, 2, 3))),
            ("keep", dice.randrange(wheel), wheel),
            ("drop", dice.choice((0, 1, 4, 70))),
            ("take", dice.choice((0, 1, 7, 100))),
            ("each", dice.choice((1, 2, 3))),
            ("until", dice.choice((-3, 0, 4, 30, 500))),
            ("unlike",),
        ))


class ManyChains(unittest.TestCase):
    def test_each_next_tells_what_the_model_tells(self):
        maze = Maze(20)
        words = {"number": 0, "end": 0, "long": 0}
        undone = 0
        for _ in range(CHAINS):
            chain = maze.whole_chain()
            drawer, model = Drawer(chain), Model(chain)
            for _ in range(NEXTS):
                if maze.dice.random() < 0.1:
                    number = maze.dice.randint(-99, 99)
                    drawer.put_back(number)
                    model.back.append(number)
                told = drawer.next()
                self.assertEqual(told, model.next(), chain)
                self.assertEqual(drawer.drawn(), model.counts, chain)
                self.assertEqual(drawer.undone(), model.lost, chain)
                words[told[0]] += 1
            self.assertEqual(len(makers(chain)), len(model.counts))
            undone += len(model.lost)
        # Else the chains would be too tame to show anything.
        self.assertGreater(min(words.values()), 1000, words)
        self.assertGreater(undone, 100)


if __name__ == "__main__":
    unittest.main()
