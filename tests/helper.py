"""What several tests need: short asking, many chains, and a second way to draw, by generators."""

import random

from drawchain.drawing import Drawer

END = ("end",)
LONG = ("long",)
COUNT = ("count", 0, 1)


def row(*numbers):
    return ("row", numbers)


def chain(maker, *stages):
    return (maker, stages)


def tell(drawer, many):
    """So many nexts; the numbers without their word, to be read more easily."""
    told = []
    for _ in range(many):
        answer = drawer.next()
        told.append(answer[1] if answer[0] == "number" else answer)
    return told


def told_of(maker, *stages, many):
    """What so many nexts of a new drawer tell, what is drawn then, and what is undone."""
    drawer = Drawer((maker, stages))
    return tell(drawer, many), drawer.drawn(), drawer.undone()


class TooLong(Exception):
    pass


class Model:
    """What a drawer should tell, written in another way than the program."""

    def __init__(self, whole_chain):
        self.counts = []
        self.lost = []
        self.back = []
        self.is_long = False
        self.used = 0
        self.flow = self.flow_of(whole_chain)

    def flow_of(self, part):
        maker, stages = part
        place = len(self.counts)
        self.counts.append(0)
        flow = self.made(place, maker)
        for stage in stages:
            flow = self.staged(flow, *stage)
        return flow

    def made(self, place, maker):
        if maker[0] == "row":
            for number in maker[1]:
                self.spend(place)
                yield number
            return
        number = maker[1]
        while True:
            self.spend(place)
            yield number
            number += maker[2]

    def spend(self, place):
        if self.used == 200:
            raise TooLong
        self.used += 1
        self.counts[place] += 1

    def staged(self, flow, word, *rest):
        # The chain within is made here at once, for its makers' numbers.
        if word in ("both", "then"):
            rest = (self.flow_of(rest[0]),)
        return getattr(self, word)(flow, *rest)

    def add(self, flow, n):
        return (number + n for number in flow)

    def times(self, flow, n):
        return (number * n for number in flow)

    def keep(self, flow, rest, wheel):
        return (number for number in flow if (number - rest) % wheel == 0)

    def drop(self, flow, many):
        for at, number in enumerate(flow):
            if at >= many:
                yield number

    def take(self, flow, many):
        for _ in range(many):
            for number in flow:
                yield number
                break

    def each(self, flow, many):
        for number in flow:
            yield from [number] * many

    def until(self, flow, n):
        for number in flow:
            if number >= n:
                self.lost.append(number)
                return
            yield number

    def unlike(self, flow):
        told = []
        for number in flow:
            if [number] != told[-1:]:
                told.append(number)
                yield number

    def both(self, flow, other):
        for number in flow:
            second = next(other, None)
            if second is None:
                self.lost.append(number)
                return
            yield number + second

    def then(self, flow, other):
        yield from flow
        yield from other

    def next(self):
        if self.back:
            return ("number", self.back.pop())
        if self.is_long:
            return LONG
        self.used = 0
        try:
            number = next(self.flow, None)
        except TooLong:
            self.is_long = True
            return LONG
        return END if number is None else ("number", number)


class Maze:
    """Makes chains; the same ones in each run, as the seed is the same."""

    def __init__(self, seed, counts=0.4):
        self.dice = random.Random(seed)
        self.counts = counts
        self.makers_left = 0
        self.stages_left = 0

    def whole_chain(self, makers=4, stages=12):
        self.makers_left = self.dice.randint(1, makers)
        self.stages_left = self.dice.randint(0, stages)
        return self.part()

    def part(self):
        self.makers_left -= 1
        maker = self.maker()
        stages = []
        while self.stages_left and self.dice.random() < 0.85:
            self.stages_left -= 1
            stages.append(self.stage())
        return (maker, tuple(stages))

    def maker(self):
        dice = self.dice
        if dice.random() < self.counts:
            return ("count", dice.randint(-9, 9), dice.randint(-3, 3))
        many = dice.choice((0, 1, 2, 5, 12, 40, 100))
        return ("row", tuple(dice.randint(-6, 6) for _ in range(many)))

    def stage(self):
        dice = self.dice
        if self.makers_left and dice.random() < 0.35:
            return (dice.choice(("both", "then")), self.part())
        wheel = dice.choice((2, 3, 5))
        return dice.choice((
            ("add", dice.randint(-5, 5)),
            ("times", dice.choice((-1, 0, 2, 3))),
            ("keep", dice.randrange(wheel), wheel),
            ("drop", dice.choice((0, 1, 4, 70))),
            ("take", dice.choice((0, 1, 7, 100))),
            ("each", dice.choice((1, 2, 3))),
            ("until", dice.choice((-3, 0, 4, 30, 500))),
            ("unlike",),
        ))
