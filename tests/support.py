"""What the tests share: calls written by their names, and answers split call by call."""

import unittest

from pinchannel.desk import answers

NETS = [3]
PIECES = [4]
DENSITY = [5]
ABOVE = [6]
LEVELS = [7]
RING = [8]
LEFT = [9]
LEAST = [10]
MIRROR = [15]
TURN = [16]
QUESTIONS = [NETS, PIECES, DENSITY, ABOVE, LEVELS, RING, LEFT, LEAST]

LEAST_INT = -2147483648
GREATEST_INT = 2147483647


def rows(upper, lower):
    return [0, len(upper)] + list(upper) + [len(lower)] + list(lower)


def mode(k):
    return [1, k]


def pin(column, side, net):
    return [2, column, side, net]


def check(row):
    return [11, len(row)] + list(row)


def lift(row):
    return [12, len(row)] + list(row)


def draw(row):
    return [13, len(row)] + list(row)


def length(row):
    return [14, len(row)] + list(row)


def rename(net, new):
    return [17, net, new]


def line(calls):
    return [number for call in calls for number in call]


def split(told):
    """The answers of each call; fails if the counts don't go out evenly."""
    found = []
    place = 0
    while place < len(told):
        size = told[place]
        answer = told[place + 1:place + 1 + size]
        if size < 1 or len(answer) != size:
            raise AssertionError(f"a wrong count at place {place} of {told}")
        found.append(answer)
        place += 1 + size
    return found


def ask(*calls):
    """One answer for each call."""
    found = split(answers(line(calls)))
    if len(found) != len(calls):
        raise AssertionError(f"{len(found)} answers to {len(calls)} calls")
    return found


def last(*calls):
    """The last call's answer."""
    return ask(*calls)[-1]


def left_row(*before):
    """The left-edge row behind these calls, or None if there's a ring."""
    told = last(*before, LEFT)
    return None if told == [-8] else told[2:]


def all_questions(*before):
    """Calls whose answers show every pin and the mode behind these calls."""
    row = left_row(*before)
    # Of questions without a row, none tells which side a lonely pin is on.
    return QUESTIONS if row is None else QUESTIONS + [draw(row), length(row), check(row)]


class ChannelTest(unittest.TestCase):
    def assert_refused(self, before, refused, number):
        """The refusal is its number alone, and every question is answered as without it."""
        questions = all_questions(*before)
        told = ask(*before, *questions, refused, *questions)
        size = len(questions)
        self.assertEqual(told[len(before) + size], [number], refused[:50])
        self.assertEqual(told[-size:], told[len(before):len(before) + size])

    def assert_same_channel(self, calls, others):
        """Behind these calls every question is answered as behind those."""
        questions = all_questions(*others)
        self.assertEqual(ask(*calls, *questions)[len(calls):], ask(*others, *questions)[len(others):])
