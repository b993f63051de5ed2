"""Whole rows: all numbers of a chain whose makers end."""

from drawchain.chains import check_chain, makers_within
from drawchain.errors import NoWhole

WHOLE_AT_MOST = 10000


def whole(chain):
    """All numbers that come of the chain."""
    check_chain(chain)
    for maker in makers_within(chain):
        if maker[0] != "row":
            raise NoWhole("a maker has no end")
    return whole_row(chain)


def whole_row(chain):
    numbers = list(chain[0][1])
    for stage in chain[1]:
        numbers = row_behind(numbers, stage)
        # Looked at behind each stage, so that no row grows beyond measure.
        if len(numbers) > WHOLE_AT_MOST:
            raise NoWhole("a row has more than 10,000 numbers")
    return numbers


def row_behind(numbers, stage):
    """The row that comes of a row by one stage."""
    match stage:
        case ("add", n):
            return [number + n for number in numbers]
        case ("times", n):
            return [number * n for number in numbers]
        case ("keep", rest, wheel):
            return [number for number in numbers if number % wheel == rest]
        case ("drop", many):
            return numbers[many:]
        case ("take", many):
            return numbers[:many]
        case ("each", many):
            return [number for number in numbers for _ in range(many)]
        case ("until", n):
            return row_until(numbers, n)
        case ("unlike",):
            return row_unlike(numbers)
        case ("both", chain):
            return [one + other for one, other in zip(numbers, whole_row(chain))]
        case ("then", chain):
            return numbers + whole_row(chain)


def row_until(numbers, n):
    for at, number in enumerate(numbers):
        if number >= n:
            return numbers[:at]
    return numbers


def row_unlike(numbers):
    return [
        number for at, number in enumerate(numbers)
        if at == 0 or number != numbers[at - 1]
    ]
