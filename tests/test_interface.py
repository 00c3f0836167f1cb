"""The interface: the list that is handed in, and the list that is given back."""

import contextlib
import io
import unittest

from pinchannel.desk import UnknownCall, answers
from support import (ABOVE, DENSITY, LEAST, LEFT, LEVELS, MIRROR, NETS, PIECES, QUESTIONS, RING, TURN,
                     check, draw, length, lift, line, mode, pin, rename, rows)

ROW_CALLS = [call(row) for call in (check, lift, draw, length) for row in ([3, 5, 7], [7, 5, 3, 1], [1], [0, 1, 2])]
CHANGES = [MIRROR, TURN, rename(2, 9), rename(2, 9), rename(1, 9), rename(1, 0)]
MANY_CALLS = line([rows([1, 2, 0, 1], [2, 0, 3, 3]), *QUESTIONS, *ROW_CALLS, mode(1), *QUESTIONS, *ROW_CALLS,
                   pin(2, 0, 3), *QUESTIONS, *ROW_CALLS, rows([1], []), pin(9, 9, 9), mode(7), *QUESTIONS,
                   *CHANGES, *QUESTIONS, *ROW_CALLS])


class InterfaceTest(unittest.TestCase):
    def test_counts_before_each_answer(self):
        calls = line([rows([1, 2], [2, 0]), NETS, PIECES, DENSITY, mode(2), ABOVE, LEVELS, RING])
        self.assertEqual(answers(calls), [
            1, 0,
            8, 2, 1, 1, 0, 2, 2, 0, 1,
            7, 2, 1, 0, 0, 2, 0, 1,
            4, 2, 2, 2, 1,
            1, -2,
            3, 1, 0, 1,
            3, 2, 1, 2,
            1, 0,
        ])

    def test_every_question_at_the_beginning(self):
        self.assertEqual(answers(line(QUESTIONS)), [1, 0, 1, 0, 2, 0, 0, 1, 0, 1, 0, 1, 0, 2, 0, 0, 2, 0, 0])

    def test_counts_before_answers_about_rows_of_tracks(self):
        calls = line([rows([1, 2], [2, 0]), LEFT, LEAST, check([3, 3]), check([1, 3]), lift([5, 9]), draw([1, 3]),
                      length([1, 3]), lift([3, 3]), draw([1]), length([])])
        self.assertEqual(answers(calls), [
            1, 0,
            4, 2, 2, 1, 2,
            4, 2, 2, 1, 2,
            7, 2, 1, 0, 1, 2, 0, 1,
            1, 0,
            4, 2, 2, 1, 2,
            27, 2, 1, 0, 1, 0, 1, 2, 0, 3, 1, 3, 3, 1, 0, 0, 0, 1, 2, 0, 3, 0, 4, 2, 1, 0, 1, 3,
            2, 6, 3,
            1, -10,
            1, -3,
            1, -3,
        ])

    def test_counts_before_answers_of_changes(self):
        calls = line([rows([1, 2], [2, 0]), MIRROR, TURN, rename(1, 5), rename(1, 5), rename(5, 0), rename(5, 2),
                      NETS, ABOVE])
        self.assertEqual(answers(calls), [
            1, 0, 1, 0, 1, 0, 1, 0, 1, -1, 1, -2, 1, -7,
            8, 2, 2, 2, 0, 1, 5, 1, 1,
            3, 1, 0, 1,
        ])

    def test_a_number_that_no_call_has(self):
        for number in (-1, 18):
            with self.assertRaises(UnknownCall):
                answers([number])

    def test_a_call_behind_refused_rows_is_read_at_its_place(self):
        calls = line([rows([1, 2, 3], [4]), DENSITY, rows([1000] * 3, [5] * 3), DENSITY, rows([1] * 60, []), DENSITY])
        self.assertEqual(answers(calls), [1, -3, 2, 0, 0, 1, -2, 2, 0, 0, 1, -3, 2, 0, 0])

    def test_what_is_handed_in_stays_as_it_was(self):
        calls = list(MANY_CALLS)
        answers(calls)
        self.assertEqual(calls, MANY_CALLS)

    def test_what_is_handed_in_is_not_changed_for_a_while_either(self):
        class Watched(list):
            def refuse(self, *args):
                raise AssertionError("the list that was handed in is changed")
            append = extend = insert = pop = remove = clear = sort = reverse = refuse
            __setitem__ = __delitem__ = __iadd__ = __imul__ = refuse
        self.assertEqual(answers(Watched(MANY_CALLS)), answers(list(MANY_CALLS)))

    def test_the_same_list_is_answered_the_same_again(self):
        calls = list(MANY_CALLS)
        first = answers(calls)
        self.assertEqual(answers(calls), first)

    def test_nothing_is_kept(self):
        answers(line([rows([1, 2], [2, 1]), mode(1)]))
        self.assertEqual(answers(line([DENSITY, rows([1, 1, 1], [0, 0, 0]), PIECES])),
                         [2, 0, 0, 1, 0, 4, 1, 1, 0, 2])

    def test_changing_what_was_given_back_changes_nothing_later(self):
        first = answers(MANY_CALLS)
        kept = list(first)
        first.clear()
        self.assertEqual(answers(MANY_CALLS), kept)

    def test_whole_numbers_in_a_list(self):
        told = answers(MANY_CALLS)
        self.assertIs(type(told), list)
        self.assertEqual({type(number) for number in told}, {int})

    def test_nothing_is_printed(self):
        for stream in (contextlib.redirect_stdout, contextlib.redirect_stderr):
            with stream(io.StringIO()) as printed:
                answers(MANY_CALLS)
            self.assertEqual(printed.getvalue(), "")

    def test_400_calls_on_48_columns(self):
        chain = rows(range(1, 49), range(2, 50))
        told = answers(line([chain] + [LEVELS, RING, ABOVE] * 133))
        expected = [50, 49] + list(range(1, 50)) + [1, 0, 97, 48] + [k + d for k in range(48) for d in (0, 1)]
        # Lists this long would take minutes to be shown side by side.
        self.assertTrue(told == [1, 0] + expected * 133)

    def test_rows_of_10000(self):
        calls = line([rows([0] * 10000, [0] * 10000), DENSITY])
        self.assertEqual(answers(calls), [1, -3, 2, 0, 0])
        for call in (check, lift, draw, length):
            calls = line([rows([1], [0]), call([1] * 10000), call([200] * 10000), call([0] * 10000), PIECES])
            self.assertEqual(answers(calls), [1, 0, 1, -3, 1, -3, 1, -3, 4, 1, 1, 0, 0])


if __name__ == "__main__":
    unittest.main()
