"""What the tests share: calls written by their names, and answers split call by call."""

from pinchannel.desk import answers

NETS = [3]
PIECES = [4]
DENSITY = [5]
ABOVE = [6]
LEVELS = [7]
RING = [8]
QUESTIONS = [NETS, PIECES, DENSITY, ABOVE, LEVELS, RING]

LEAST_INT = -2147483648
GREATEST_INT = 2147483647


def rows(upper, lower):
    return [0, len(upper)] + list(upper) + [len(lower)] + list(lower)


def mode(k):
    return [1, k]


def pin(column, side, net):
    return [2, column, side, net]


def line(calls):
    return [number for call in calls for number in call]


def split(told):
    """The answers of each call; fails if the counts don't go out evenly."""
    found = []
    place = 0
    while place < len(told):
        size = told[place]
        answer = told[place + 1:place + 1 + size]
        if size < 1 or len(answer) != size:
            raise AssertionError(f"a wrong count at place {place} of {told}")
        found.append(answer)
        place += 1 + size
    return found


def ask(*calls):
    """One answer for each call."""
    found = split(answers(line(calls)))
    if len(found) != len(calls):
        raise AssertionError(f"{len(found)} answers to {len(calls)} calls")
    return found


def last(*calls):
    """The last call's answer."""
    return ask(*calls)[-1]
