"""The refusals of the program."""


class DrawError(ValueError):
    """Any refusal."""


class BadChain(DrawError):
    """What was handed in is no chain."""


class BadMany(DrawError):
    """It can't be asked for so many numbers."""


class NoWhole(DrawError):
    """The chain has no whole row, or one that is too long."""


class BadText(DrawError):
    """The text is no chain; place is that of the first word that can't stand there."""

    def __init__(self, place):
        super().__init__(f"no chain can be read from word {place} on")
        self.place = place
