"""Point 11 check, and what a row told as an argument is, for all calls that take one."""

import unittest

from support import ChannelTest, GREATEST_INT, LEAST_INT, ask, check, draw, last, length, lift, mode, rows

THREE_OVER_ONE_ANOTHER = rows([1, 2, 3, 1, 2, 3], [0] * 6)
RING_OF_TWO = rows([1, 2], [2, 1])
ROW_CALLS = (check, lift, draw, length)


class CheckTest(ChannelTest):
    def test_no_pieces(self):
        self.assertEqual(ask(check([]), rows([0, 0], [0, 0]), check([])), [[0], [0], [0]])

    def test_a_right_row(self):
        self.assertEqual(last(THREE_OVER_ONE_ANOTHER, check([3, 1, 200])), [0])

    def test_two_on_one_track_by_p_then_by_q(self):
        self.assertEqual(last(THREE_OVER_ONE_ANOTHER, check([5, 5, 5])), [3, 1, 0, 1, 1, 0, 2, 1, 1, 2])

    def test_only_those_that_are_on_one_track(self):
        self.assertEqual(last(THREE_OVER_ONE_ANOTHER, check([5, 4, 5])), [1, 1, 0, 2])

    def test_pieces_side_by_side_may_be_on_one_track(self):
        self.assertEqual(last(rows([1, 1, 2, 2], [0] * 4), check([1, 1])), [0])

    def test_first_and_last_column_are_covered(self):
        # 1 ends where 2 begins, and 2 must lie above 1.
        told = ask(rows([0, 2, 2], [1, 1, 0]), check([7, 7]), check([8, 7]))
        self.assertEqual(told[1:], [[2, 1, 0, 1, 2, 1, 0], [0]])

    def test_a_piece_of_one_column_within_another(self):
        self.assertEqual(last(rows([1, 2, 1], [0] * 3), check([4, 4])), [1, 1, 0, 1])

    def test_above_and_not_above(self):
        told = ask(rows([1], [2]), check([7, 8]), check([7, 7]), check([8, 7]))
        self.assertEqual(told[1:], [[0], [2, 1, 0, 1, 2, 0, 1], [1, 2, 0, 1]])

    def test_all_of_the_first_kind_come_first(self):
        # Pairs of above: 0, 1 and 0, 3 and 2, 0 and 2, 1.
        told = last(rows([3, 3, 1, 1], [2, 1, 4, 2]), check([1, 1, 1, 1]))
        self.assertEqual(told, [9, 1, 0, 1, 1, 0, 2, 1, 0, 3, 1, 1, 2, 1, 1, 3,
                                2, 0, 1, 2, 0, 3, 2, 2, 0, 2, 2, 1])

    def test_the_order_of_above_is_kept(self):
        told = last(rows([3, 3, 1, 1], [2, 1, 4, 2]), check([5, 4, 6, 3]))
        self.assertEqual(told, [4, 2, 0, 1, 2, 0, 3, 2, 2, 0, 2, 2, 1])

    def test_cut_pieces_of_one_net(self):
        told = ask(rows([1, 1, 1], [0, 0, 0]), mode(1), check([1, 1]), check([2, 1]), check([1, 9]))
        self.assertEqual(told[2:], [[0], [0], [0]])

    def test_cut_pieces_of_unlike_nets(self):
        # Net 1's pieces are 0 and 1, net 2's 2 and 3; each covers column 1 and is above or below there.
        told = last(rows([1, 1, 1], [2, 2, 2]), mode(1), check([1, 2, 2, 1]))
        self.assertEqual(told, [5, 1, 0, 3, 1, 1, 2, 2, 0, 3, 2, 1, 2, 2, 1, 3])

    def test_with_a_ring(self):
        told = ask(RING_OF_TWO, check([1, 2]), check([2, 1]), check([1, 1]))
        self.assertEqual(told[1:], [[1, 2, 1, 0], [1, 2, 0, 1], [3, 1, 0, 1, 2, 0, 1, 2, 1, 0]])

    def test_more_than_8_pieces(self):
        self.assertEqual(last(rows(range(1, 49), range(51, 99)), check([1] * 48 + [2] * 48)), [0])


class RowTest(ChannelTest):
    def test_too_few_and_too_many_numbers(self):
        for call in ROW_CALLS:
            for row in ([], [1, 2], [1, 2, 3, 4], [1] * 10000):
                self.assert_refused([THREE_OVER_ONE_ANOTHER], call(row), -3)

    def test_no_pieces(self):
        for call in ROW_CALLS:
            self.assert_refused([], call([1]), -3)
            self.assert_refused([rows([0, 0], [0, 0])], call([1, 1]), -3)

    def test_numbers_beside_the_range(self):
        for call in ROW_CALLS:
            for wrong in (0, 201, -1, LEAST_INT, GREATEST_INT):
                for row in ([wrong, 2, 3], [1, wrong, 3], [1, 2, wrong]):
                    self.assert_refused([THREE_OVER_ONE_ANOTHER], call(row), -3)

    def test_as_many_as_pieces_and_not_as_nets(self):
        cut = [rows([1, 1, 1], [0, 0, 0]), mode(1)]
        for call in ROW_CALLS:
            self.assert_refused(cut, call([1]), -3)
            self.assertGreaterEqual(last(*cut, call([1, 1]))[0], 0)

    def test_tracks_1_and_200(self):
        for call in ROW_CALLS:
            self.assertGreaterEqual(last(THREE_OVER_ONE_ANOTHER, call([1, 200, 2]))[0], 0)

    def test_a_wrong_row_is_looked_at_before_a_row_that_is_not_right(self):
        for call in (lift, draw, length):
            self.assert_refused([THREE_OVER_ONE_ANOTHER], call([1, 1, 201]), -3)
            self.assert_refused([THREE_OVER_ONE_ANOTHER], call([1, 1]), -3)
            self.assert_refused([RING_OF_TWO], call([0, 1]), -3)
            self.assert_refused([RING_OF_TWO], call([1, 2, 3]), -3)

    def test_a_row_that_is_not_right(self):
        for call in (lift, draw, length):
            self.assert_refused([THREE_OVER_ONE_ANOTHER], call([1, 2, 1]), -10)
            self.assert_refused([rows([1], [2])], call([2, 1]), -10)
            self.assert_refused([rows([1], [2])], call([200, 200]), -10)

    def test_no_row_is_right_with_a_ring(self):
        for call in (lift, draw, length):
            for row in ([1, 2], [2, 1], [1, 1]):
                self.assert_refused([RING_OF_TWO], call(row), -10)

    def test_a_row_is_not_kept(self):
        told = ask(THREE_OVER_ONE_ANOTHER, check([1, 1, 1]), lift([9, 8, 7]), check([1, 1, 1]), lift([9, 8, 7]))
        self.assertEqual(told[1:3], told[3:5])

    def test_a_call_behind_a_refused_row_is_read_at_its_place(self):
        for call in ROW_CALLS:
            told = ask(rows([1], [2]), call([5] * 60), check([1, 2]), call([1, 0]), check([2, 1]))
            self.assertEqual(told[1:], [[-3], [0], [-3], [1, 2, 0, 1]])


if __name__ == "__main__":
    unittest.main()
