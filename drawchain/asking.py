"""Asking a chain for its first numbers."""

from drawchain.chains import is_within
from drawchain.drawing import Drawer
from drawchain.errors import BadMany

ASKED_AT_MOST = 1000


def first(chain, many):
    """The first so many numbers told, "more", "end" or "long", and how far each maker is drawn."""
    # The drawer comes first: it refuses what is no chain ahead of a bad count.
    drawer = Drawer(chain)
    if not is_within(many, 0, ASKED_AT_MOST):
        raise BadMany("it can be asked for 0 to 1000 numbers")
    told = []
    while len(told) < many:
        answer = drawer.next()
        if answer[0] != "number":
            return (told, answer[0], drawer.drawn())
        told.append(answer[1])
    return (told, "more", drawer.drawn())
