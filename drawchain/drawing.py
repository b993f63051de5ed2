"""Drawers: the numbers of a chain, told one by one."""

from drawchain.chains import check_chain
from drawchain.meter import LongDraw, Meter
from drawchain.stages import (
    Both, Count, Drop, Each, Keep, Reckon, Row, Take, Then, Unlike, Until,
)


class Drawer:
    def __init__(self, chain):
        check_chain(chain)
        self._meter = Meter()
        self._last = chain_end(chain, self._meter)
        self._back = []
        self._stopped = False

    def next(self):
        """("number", n), ("end",) or ("long",)."""
        if self._back:
            return ("number", self._back.pop())
        if self._stopped:
            return ("long",)
        self._meter.begin_next()
        try:
            number = self._last.draw()
        except LongDraw:
            self._stopped = True
            return ("long",)
        if number is None:
            return ("end",)
        return ("number", number)

    def drawn(self):
        """How many numbers were drawn of each maker, by their numbers."""
        return list(self._meter.counts)

    def undone(self):
        """All numbers that are undone, in turn."""
        return list(self._meter.lost)

    def put_back(self, number):
        """Lets next tell this number, ahead of all else."""
        self._back.append(number)


def chain_end(chain, meter):
    """The last stage of a chain, or its maker, to be drawn from."""
    # Each maker takes its number as it is made, so they are made as they stand.
    last = maker_of(chain[0], meter)
    for stage in chain[1]:
        last = stage_behind(last, stage, meter)
    return last


def maker_of(maker, meter):
    match maker:
        case ("count", begin, step):
            return Count(begin, step, meter)
        case ("row", numbers):
            return Row(numbers, meter)


def stage_behind(ahead, stage, meter):
    match stage:
        case ("add", n):
            return Reckon(ahead, 1, n)
        case ("times", n):
            return Reckon(ahead, n, 0)
        case ("keep", rest, wheel):
            return Keep(ahead, rest, wheel)
        case ("drop", many):
            return Drop(ahead, many)
        case ("take", many):
            return Take(ahead, many)
        case ("each", many):
            return Each(ahead, many)
        case ("until", n):
            return Until(ahead, n, meter)
        case ("unlike",):
            return Unlike(ahead)
        case ("both", chain):
            return Both(ahead, chain_end(chain, meter), meter)
        case ("then", chain):
            return Then(ahead, chain_end(chain, meter))
