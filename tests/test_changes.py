"""Points 0 rows, 1 mode and 2 pin: what they change, and what they refuse."""

import unittest

from support import (ABOVE, DENSITY, GREATEST_INT, LEAST_INT, NETS, PIECES, ChannelTest,
                     ask, last, mode, pin, rows)

SOME_ROWS = rows([1, 2, 0, 1], [2, 0, 3, 3])


class RowsTest(ChannelTest):
    def test_columns_are_those_of_the_rows(self):
        told = ask(rows([5, 0, 7], [0, 5, 7]), NETS)
        self.assertEqual(told, [[0], [2, 5, 2, 0, 1, 7, 1, 2]])

    def test_later_rows_take_the_place_of_earlier_ones(self):
        told = ask(rows([1, 2], [3, 4]), rows([9], [0]), NETS, DENSITY)
        self.assertEqual(told, [[0], [0], [1, 9, 1, 0], [1, 1, 1]])

    def test_no_columns(self):
        told = ask(SOME_ROWS, rows([], []), NETS, DENSITY)
        self.assertEqual(told, [[0], [0], [0], [0, 0]])

    def test_pins_0_and_999(self):
        self.assertEqual(ask(rows([0, 999], [999, 0]), NETS), [[0], [1, 999, 2, 0, 1]])

    def test_48_columns(self):
        told = ask(rows([1] * 48, [0] * 48), PIECES)
        self.assertEqual(told, [[0], [1, 1, 0, 47]])

    def test_49_columns(self):
        self.assert_refused([SOME_ROWS], rows([1] * 49, [1] * 49), -3)

    def test_very_long_rows(self):
        self.assert_refused([SOME_ROWS], rows([1] * 10000, [1] * 10000), -3)

    def test_unlike_lengths(self):
        for upper, lower in (([1], []), ([], [1]), ([1, 2], [1]), ([1] * 48, [1] * 49), ([1] * 49, [1] * 48)):
            self.assert_refused([SOME_ROWS], rows(upper, lower), -3)

    def test_numbers_beside_the_range(self):
        for wrong in (-1, 1000, LEAST_INT, GREATEST_INT):
            self.assert_refused([SOME_ROWS], rows([1, wrong], [1, 1]), -2)
            self.assert_refused([SOME_ROWS], rows([1, 1], [wrong, 1]), -2)

    def test_length_is_looked_at_before_numbers(self):
        for upper, lower in (([-1], []), ([], [1000]), ([1000] * 49, [-1] * 49)):
            self.assert_refused([SOME_ROWS], rows(upper, lower), -3)

    def test_refused_rows_leave_no_columns_at_the_beginning(self):
        self.assertEqual(ask(rows([1], [1000]), DENSITY), [[-2], [0, 0]])

    def test_mode_stays(self):
        told = last(mode(1), rows([1, 1, 1], [0, 0, 0]), PIECES)
        self.assertEqual(told, [2, 1, 0, 1, 1, 1, 2])


class ModeTest(ChannelTest):
    def test_whole_at_the_beginning(self):
        self.assertEqual(last(rows([1, 1, 1], [0, 0, 0]), PIECES), [1, 1, 0, 2])

    def test_cut_and_whole_again(self):
        told = ask(rows([1, 1, 1], [0, 0, 0]), mode(1), PIECES, mode(1), PIECES, mode(0), PIECES)
        self.assertEqual(told[1:], [[0], [2, 1, 0, 1, 1, 1, 2], [0], [2, 1, 0, 1, 1, 1, 2], [0], [1, 1, 0, 2]])

    def test_pins_stay(self):
        told = ask(SOME_ROWS, NETS, mode(1), NETS)
        self.assertEqual(told[1], told[3])

    def test_wrong_modes(self):
        for wrong in (-1, 2, LEAST_INT, GREATEST_INT):
            self.assert_refused([SOME_ROWS], mode(wrong), -2)
            self.assert_refused([SOME_ROWS, mode(1)], mode(wrong), -2)


class PinTest(ChannelTest):
    def test_sides(self):
        told = ask(rows([1, 2], [3, 4]), pin(0, 0, 5), pin(1, 1, 6), ABOVE, NETS)
        self.assertEqual(told[1:3], [[0], [0]])
        # 5 above 3 in column 0, 2 above 6 in column 1: the pieces are 2, 3, 5, 6.
        self.assertEqual(told[3], [2, 0, 3, 2, 1])
        self.assertEqual(told[4], [4, 2, 1, 1, 3, 1, 0, 5, 1, 0, 6, 1, 1])

    def test_net_0_takes_the_pin_away(self):
        told = ask(rows([1, 1], [0, 1]), pin(1, 0, 0), NETS, pin(1, 1, 0), NETS)
        self.assertEqual(told[1:], [[0], [1, 1, 2, 0, 1], [0], [1, 1, 1, 0]])

    def test_net_999_and_the_last_column(self):
        told = ask(rows([0] * 48, [0] * 48), pin(47, 1, 999), NETS)
        self.assertEqual(told[1:], [[0], [1, 999, 1, 47]])

    def test_no_such_column(self):
        for wrong in (-1, -4, 4, LEAST_INT, GREATEST_INT):
            self.assert_refused([SOME_ROWS], pin(wrong, 0, 9), -1)

    def test_no_column_at_all(self):
        self.assert_refused([], pin(0, 0, 1), -1)

    def test_wrong_side(self):
        for wrong in (-1, 2, LEAST_INT, GREATEST_INT):
            self.assert_refused([SOME_ROWS], pin(0, wrong, 9), -2)

    def test_wrong_net(self):
        for wrong in (-1, 1000, LEAST_INT, GREATEST_INT):
            self.assert_refused([SOME_ROWS], pin(0, 0, wrong), -2)
            self.assert_refused([SOME_ROWS], pin(3, 1, wrong), -2)

    def test_column_is_looked_at_first(self):
        self.assert_refused([SOME_ROWS], pin(4, 2, 9), -1)
        self.assert_refused([SOME_ROWS], pin(-1, 0, 1000), -1)
        self.assert_refused([SOME_ROWS], pin(4, -1, -1), -1)


if __name__ == "__main__":
    unittest.main()
