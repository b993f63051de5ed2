"""What a chain is, and which makers it has."""

from drawchain.errors import BadChain

FIRST_TOO_LARGE = 10 ** 30
MAKERS_AT_MOST = 4
STAGES_AT_MOST = 12
ROW_AT_MOST = 100


def makers(chain):
    """All makers of the chain, by their numbers."""
    check_chain(chain)
    return makers_within(chain)


def makers_within(chain):
    found = [chain[0]]
    for stage in chain[1]:
        if has_chain(stage):
            found.extend(makers_within(stage[1]))
    return found


def check_chain(chain):
    """Refuses what is no chain."""
    if not is_chain(chain):
        raise BadChain("this is no chain")


def is_chain(chain):
    maker_count = 0
    stage_count = 0
    # A list instead of recursion: what is refused may be nested without bound.
    waiting = [chain]
    while waiting:
        part = waiting.pop()
        if not is_pair(part) or not is_maker(part[0]):
            return False
        maker_count += 1
        stage_count += len(part[1])
        if maker_count > MAKERS_AT_MOST or stage_count > STAGES_AT_MOST:
            return False
        for stage in part[1]:
            if not is_stage(stage):
                return False
            if has_chain(stage):
                waiting.append(stage[1])
    return True


def is_pair(part):
    return isinstance(part, tuple) and len(part) == 2 and isinstance(part[1], tuple)


def is_maker(maker):
    if not isinstance(maker, tuple):
        return False
    match maker:
        case ("count", begin, step):
            return is_number(begin) and is_number(step)
        case ("row", numbers):
            return is_row(numbers)
    return False


def is_row(numbers):
    if not isinstance(numbers, tuple) or len(numbers) > ROW_AT_MOST:
        return False
    return all([is_number(number) for number in numbers])


def is_stage(stage):
    """Whether it is a stage, except that a chain within it is not looked at."""
    if not isinstance(stage, tuple):
        return False
    match stage:
        case ("add" | "times" | "until", n):
            return is_number(n)
        case ("keep", rest, wheel):
            return is_within(wheel, 2, 1000) and is_within(rest, 0, wheel - 1)
        case ("drop" | "take", many):
            return is_within(many, 0, 100)
        case ("each", many):
            return is_within(many, 1, 10)
        case ("unlike",):
            return True
        case ("both" | "then", _):
            return True
    return False


def has_chain(stage):
    """Whether the stage has a chain of its own."""
    return stage[0] in ("both", "then")


def is_within(number, low, high):
    return is_number(number) and low <= number <= high


def is_number(number):
    # True and False are integers to Python, but no numbers here.
    if isinstance(number, bool) or not isinstance(number, int):
        return False
    return -FIRST_TOO_LARGE < number < FIRST_TOO_LARGE
