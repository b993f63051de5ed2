"""What a drawer knows of its makers: how far each was drawn, and what is undone."""

DRAWN_AT_MOST = 200


class LongDraw(Exception):
    """For one next, a number more would be drawn of makers than may be."""


class Meter:
    """Counts what is drawn of each maker, bounds it for one next, and holds what is undone."""

    def __init__(self):
        self.counts = []
        self.lost = []
        self.left = 0

    def enter(self):
        """The number of one more maker."""
        self.counts.append(0)
        return len(self.counts) - 1

    def begin_next(self):
        self.left = DRAWN_AT_MOST

    def note_drawn(self, place):
        """Counts a number that is now drawn of the maker at this place."""
        if self.left == 0:
            raise LongDraw("too many numbers are drawn for one next")
        self.left -= 1
        self.counts[place] += 1

    def note_undone(self, number):
        self.lost.append(number)
