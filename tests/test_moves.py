"""Points 15 mirror, 16 turn and 17 rename: what the calls after them see, and what rename refuses."""

import unittest

from support import (ABOVE, GREATEST_INT, LEAST, LEAST_INT, LEFT, MIRROR, NETS, PIECES, TURN, ChannelTest,
                     ask, check, draw, last, mode, pin, rename, rows)

UPPER = [4, 1, 0, 2, 2]
LOWER = [0, 4, 1, 0, 7]
SOME_ROWS = rows(UPPER, LOWER)
RING_ROWS = rows([1, 2, 3], [2, 1, 0])


class MirrorTest(ChannelTest):
    def test_no_columns(self):
        self.assertEqual(ask(MIRROR, NETS), [[0], [0]])

    def test_one_column(self):
        self.assertEqual(ask(rows([3], [4]), MIRROR, NETS, ABOVE)[1:], [[0], [2, 3, 1, 0, 4, 1, 0], [1, 0, 1]])

    def test_columns_are_turned_round(self):
        told = ask(rows([1, 2, 0], [0, 3, 3]), MIRROR, NETS, PIECES, ABOVE)
        self.assertEqual(told[1:], [[0], [3, 1, 1, 2, 2, 1, 1, 3, 2, 0, 1], [3, 1, 2, 2, 2, 1, 1, 3, 0, 1],
                                    [1, 1, 2]])

    def test_upper_pins_stay_upper_pins(self):
        told = last(rows([1, 0], [0, 2]), MIRROR, draw([1, 1]))
        self.assertEqual(told, [2, 1, 1, 1, 1, 1, 2, 0, 1, 0, 1, 2, 2, 0, 1, 0, 2, 1, 1, 0, 1, 1])

    def test_as_if_told_so(self):
        for k in (0, 1):
            for upper, lower in ((UPPER, LOWER), ([1, 2, 3], [2, 1, 0]), ([1, 1, 0], [0, 0, 0])):
                self.assert_same_channel([mode(k), rows(upper, lower), MIRROR],
                                         [mode(k), rows(upper[::-1], lower[::-1])])

    def test_twice(self):
        self.assert_same_channel([mode(1), SOME_ROWS, MIRROR, MIRROR], [mode(1), SOME_ROWS])

    def test_pins_are_put_by_the_new_columns(self):
        self.assert_same_channel([SOME_ROWS, MIRROR, pin(0, 1, 9)], [rows(UPPER[::-1], [9] + LOWER[::-1][1:])])

    def test_cut_pieces_change_their_order(self):
        told = last(rows([1, 1, 0, 1], [0] * 4), mode(1), MIRROR, PIECES)
        self.assertEqual(told, [2, 1, 0, 2, 1, 2, 3])


class TurnTest(ChannelTest):
    def test_no_columns(self):
        self.assertEqual(ask(TURN, NETS), [[0], [0]])

    def test_pins_change_places(self):
        told = ask(rows([1, 2, 5], [2, 3, 5]), ABOVE, TURN, ABOVE, NETS)
        self.assertEqual(told[1:4], [[2, 0, 1, 1, 2], [0], [2, 1, 0, 2, 1]])
        self.assertEqual(told[4], [4, 1, 1, 0, 2, 2, 0, 1, 3, 1, 1, 5, 1, 2])

    def test_lonely_pins_change_places(self):
        told = last(rows([1, 0], [0, 2]), TURN, draw([1, 1]))
        self.assertEqual(told, [2, 1, 0, 1, 0, 1, 2, 1, 1, 1, 1, 2, 1, 0, 1, 0, 2, 2, 1, 0, 1, 1])

    def test_as_if_told_so(self):
        for k in (0, 1):
            for upper, lower in ((UPPER, LOWER), ([1, 2, 3], [2, 1, 0]), ([1, 1, 0], [0, 0, 0])):
                self.assert_same_channel([mode(k), rows(upper, lower), TURN], [mode(k), rows(lower, upper)])

    def test_twice(self):
        self.assert_same_channel([mode(1), SOME_ROWS, TURN, TURN], [mode(1), SOME_ROWS])

    def test_the_two_sides_stay_apart(self):
        # A pin put afterwards is put on one side alone.
        self.assert_same_channel([SOME_ROWS, TURN, pin(0, 0, 9)], [rows([9] + LOWER[1:], UPPER)])
        self.assert_same_channel([SOME_ROWS, TURN, pin(0, 1, 9)], [rows(LOWER, [9] + UPPER[1:])])

    def test_with_mirror(self):
        self.assert_same_channel([SOME_ROWS, TURN, MIRROR], [SOME_ROWS, MIRROR, TURN])

    def test_a_right_row_is_right_no_more(self):
        told = ask(rows([1], [2]), check([1, 2]), TURN, check([1, 2]), LEFT, LEAST)
        self.assertEqual(told[1:], [[0], [0], [1, 2, 1, 0], [2, 2, 2, 1], [2, 2, 2, 1]])


class RenameTest(ChannelTest):
    def test_all_pins_of_the_net(self):
        self.assert_same_channel([SOME_ROWS, rename(4, 9)], [rows([9, 1, 0, 2, 2], [0, 9, 1, 0, 7])])
        self.assert_same_channel([rows([3, 3], [3, 0]), rename(3, 999)], [rows([999, 999], [999, 0])])

    def test_the_order_of_pieces_changes(self):
        told = ask(rows([2, 5, 2], [0] * 3), PIECES, rename(2, 6), PIECES, rename(5, 1), PIECES)
        self.assertEqual(told[1:], [[2, 2, 0, 2, 5, 1, 1], [0], [2, 5, 1, 1, 6, 0, 2], [0], [2, 1, 1, 1, 6, 0, 2]])

    def test_nets_1_and_999(self):
        told = ask(rows([2], [0]), rename(2, 1), NETS, rename(1, 999), NETS)
        self.assertEqual(told[1:], [[0], [1, 1, 1, 0], [0], [1, 999, 1, 0]])

    def test_the_same_net(self):
        told = ask(SOME_ROWS, rename(2, 2))
        self.assertEqual(told[1], [0])
        self.assert_same_channel([SOME_ROWS, rename(2, 2)], [SOME_ROWS])

    def test_the_former_number_is_free_then(self):
        told = ask(SOME_ROWS, rename(4, 9), rename(4, 9), rename(2, 4), rename(9, 2), NETS)
        self.assertEqual(told[1:], [[0], [-1], [0], [0], [4, 1, 2, 1, 2, 2, 2, 0, 1, 4, 2, 3, 4, 7, 1, 4]])

    def test_no_such_net(self):
        for wrong in (0, 3, 5, -1, 1000, LEAST_INT, GREATEST_INT):
            self.assert_refused([SOME_ROWS], rename(wrong, 9), -1)
            self.assert_refused([RING_ROWS], rename(4 + abs(wrong), 9), -1)

    def test_columns_without_pins_have_no_net_0(self):
        self.assert_refused([rows([0, 1], [0, 0])], rename(0, 5), -1)

    def test_no_net_at_all(self):
        self.assert_refused([], rename(1, 2), -1)
        self.assert_refused([], rename(1, 1), -1)

    def test_new_numbers_beside_the_range(self):
        for wrong in (0, -1, 1000, LEAST_INT, GREATEST_INT):
            self.assert_refused([SOME_ROWS], rename(1, wrong), -2)
            self.assert_refused([RING_ROWS, mode(1)], rename(1, wrong), -2)

    def test_new_is_another_net_that_is_there(self):
        # Net 7 has a lower pin alone, net 2 upper ones alone, net 4 both.
        for there in (2, 4, 7):
            self.assert_refused([SOME_ROWS], rename(1, there), -7)

    def test_no_such_net_is_looked_at_first(self):
        for new in (0, 1000, -1, 2):
            self.assert_refused([SOME_ROWS], rename(3, new), -1)
            self.assert_refused([SOME_ROWS], rename(0, new), -1)
        self.assert_refused([SOME_ROWS], rename(0, 0), -1)
        self.assert_refused([SOME_ROWS], rename(1000, 1000), -1)

    def test_cut_nets(self):
        told = last(rows([2, 5, 2, 2], [0] * 4), mode(1), rename(2, 6), PIECES)
        self.assertEqual(told, [3, 5, 1, 1, 6, 0, 2, 6, 2, 3])

    def test_a_ring_stays_a_ring(self):
        self.assertEqual(ask(RING_ROWS, rename(1, 9), LEFT)[1:], [[0], [-8]])


if __name__ == "__main__":
    unittest.main()
