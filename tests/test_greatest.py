"""The greatest channels and the longest lists: each is answered in seconds."""

import time
import unittest

from pinchannel.desk import answers
from support import (ABOVE, DENSITY, LEAST, LEFT, MIRROR, PIECES, QUESTIONS, TURN,
                     check, draw, last, left_row, length, lift, line, mode, rename, rows, split)

MOST_NUMBERS = 31000
MOST_CALLS = 400
MOST_CHECKS = 45
SECONDS = 10
GREATEST_CHANNELS = {
    "96 nets": rows(range(1, 49), range(999, 951, -1)),
    "a chain": rows(range(1, 49), range(2, 50)),
    "a chain against the numbers": rows(range(49, 1, -1), range(48, 0, -1)),
    "two nets": rows([1] * 48, [2] * 48),
    "four nets": rows([1, 2] * 24, [3, 4] * 24),
    "half over half": rows(list(range(1, 25)) * 2, list(range(25, 49)) * 2),
    "a ring": rows(range(1, 49), list(range(2, 49)) + [1]),
}


class GreatestTest(unittest.TestCase):
    def answers_in_time(self, calls):
        self.assertLessEqual(len(calls), MOST_NUMBERS)
        handed_in = list(calls)
        start = time.process_time()
        told = answers(handed_in)
        self.assertLess(time.process_time() - start, SECONDS)
        self.assertTrue(handed_in == calls)
        self.assertLess(len(told), 1000000)
        return split(told)

    def ask_often(self, before, call, most=MOST_CALLS):
        """The answer of a call that stands as often as it may behind those before it, always the same."""
        often = min(most, MOST_CALLS - len(before), (MOST_NUMBERS - len(line(before))) // len(call))
        told = self.answers_in_time(line(before + [call] * often))[len(before):]
        self.assertEqual(len(told), often)
        self.assertTrue(all(answer == told[0] for answer in told))
        return told[0]

    def rows_of(self, channel, count):
        """Rows with the left-edge row's order: as it is, lowered, and pulled apart as far as may be."""
        left = left_row(*channel)
        if left is None:
            return [[200] * count]
        spread = 200 // max(left)
        return [left, [track + 200 - max(left) for track in left], [track * spread for track in left],
                [200 - (max(left) - track) * spread for track in left]]

    def test_questions(self):
        for name, pins in GREATEST_CHANNELS.items():
            for question in QUESTIONS:
                with self.subTest(name=name, question=question):
                    self.ask_often([pins, mode(1)], question)

    def test_questions_by_turns(self):
        for name, pins in GREATEST_CHANNELS.items():
            for k in (0, 1):
                calls = [pins, mode(k)] + QUESTIONS * 49
                told = self.answers_in_time(line(calls))[2:]
                self.assertTrue(told == told[:len(QUESTIONS)] * 49, name)

    def test_rows_of_tracks(self):
        for name, pins in GREATEST_CHANNELS.items():
            for k in (0, 1):
                channel = [pins, mode(k)]
                count = last(*channel, PIECES)[0]
                for row in self.rows_of(channel, count):
                    calls = [check(row), lift(row), draw(row), length(row)]
                    told = self.answers_in_time(line(channel + calls * 10))[2:]
                    self.assertTrue(told == told[:4] * 10, name)
                    self.assertEqual(told[0] != [0], name == "a ring", name)
                    for answer in told[1:4]:
                        self.assertEqual(answer == [-10], name == "a ring", name)

    def test_the_longest_lists_with_rows_of_tracks(self):
        for name, pins in GREATEST_CHANNELS.items():
            channel = [pins, mode(1)]
            row = self.rows_of(channel, last(*channel, PIECES)[0])[-1]
            self.ask_often(channel, check(row), MOST_CHECKS)
            for call in (lift, draw, length):
                self.ask_often(channel, call(row))

    def test_lifted_rows_are_right_and_stay(self):
        for name, pins in GREATEST_CHANNELS.items():
            channel = [pins, mode(1)]
            if left_row(*channel) is not None:
                for row in self.rows_of(channel, 0):
                    lifted = last(*channel, lift(row))
                    self.assertEqual(last(*channel, check(lifted[2:])), [0], name)
                    self.assertEqual(last(*channel, lift(lifted[2:])), lifted, name)

    def test_the_most_pieces_on_one_track(self):
        # All 48 nets meet in the middle, and each column has two of them one above the other.
        pairs = [(1, p, q) for p in range(48) for q in range(p + 1, 48)] + [(2, p, 47 - p) for p in range(48)]
        told = self.ask_often([rows(range(1, 49), range(48, 0, -1))], check([200] * 48), MOST_CHECKS)
        self.assertEqual(told, [1128 + 48] + line(pairs))

    def test_least_of_8_pieces(self):
        over_one_another = rows(list(range(1, 9)) * 2, [0] * 16)
        self.assertEqual(self.ask_often([over_one_another], LEAST), [8, 8] + list(range(1, 9)))
        long_nets = rows((list(range(8, 0, -1)) + [0] * 16) * 2, [0] * 40 + list(range(8, 0, -1)))
        self.assertEqual(self.ask_often([long_nets], LEAST), [8, 8] + list(range(1, 9)))

    def test_changes_and_questions_by_turns(self):
        pins = GREATEST_CHANNELS["two nets"]
        for k in (0, 1):
            calls = [pins, mode(k)] + [MIRROR, LEFT, TURN, LEAST, rename(1, 3), ABOVE, rename(3, 1), DENSITY] * 49
            told = self.answers_in_time(line(calls))
            self.assertEqual(len(told), len(calls))
            # Two turns bring the channel back, and mirrored it is the same.
            self.assertTrue(told[2:18] * 24 == told[2:2 + 16 * 24])


if __name__ == "__main__":
    unittest.main()
