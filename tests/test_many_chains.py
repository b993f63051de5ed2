"""Points 3 to 5 at once: many chains, drawn by the program and by the model."""

import unittest

from drawchain.chains import makers
from drawchain.drawing import Drawer
from helper import Maze, Model

CHAINS = 1500
NEXTS = 120


class ManyChains(unittest.TestCase):
    def test_each_next_tells_what_the_model_tells(self):
        maze = Maze(20)
        words = {"number": 0, "end": 0, "long": 0}
        undone = 0
        for _ in range(CHAINS):
            chain = maze.whole_chain()
            drawer, model = Drawer(chain), Model(chain)
            for _ in range(NEXTS):
                if maze.dice.random() < 0.1:
                    number = maze.dice.randint(-99, 99)
                    drawer.put_back(number)
                    model.back.append(number)
                told = drawer.next()
                self.assertEqual(told, model.next(), chain)
                self.assertEqual(drawer.drawn(), model.counts, chain)
                self.assertEqual(drawer.undone(), model.lost, chain)
                words[told[0]] += 1
            self.assertEqual(len(makers(chain)), len(model.counts))
            undone += len(model.lost)
        # Else the chains would be too tame to show anything.
        self.assertGreater(min(words.values()), 1000, words)
        self.assertGreater(undone, 100)


if __name__ == "__main__":
    unittest.main()
