"""Point 9 left."""

import unittest

from support import LEFT, ChannelTest, ask, check, last, mode, rows


class LeftTest(ChannelTest):
    def test_no_pieces(self):
        self.assertEqual(ask(LEFT, rows([0, 0], [0, 0]), LEFT, mode(1), LEFT), [[0, 0], [0], [0, 0], [0], [0, 0]])

    def test_pieces_side_by_side_share_a_track(self):
        self.assertEqual(last(rows([1, 1, 2, 3, 3], [0, 0, 0, 0, 0]), LEFT), [1, 3, 1, 1, 1])

    def test_pieces_over_one_another_are_put_by_first_columns(self):
        # Net 9 begins ahead of 5, and 5 ahead of 1.
        told = last(rows([9, 5, 1, 9, 5, 1], [0] * 6), LEFT)
        self.assertEqual(told, [3, 3, 3, 2, 1])

    def test_a_track_is_filled_before_the_next_one(self):
        # 1 and 3 don't meet, and 2 meets both.
        self.assertEqual(last(rows([1, 2, 1, 3, 2, 3], [0] * 6), LEFT), [2, 3, 1, 2, 1])

    def test_the_piece_above_is_put_on_an_earlier_track(self):
        told = ask(rows([1, 1, 2], [0, 2, 0]), LEFT, rows([0, 2, 0], [1, 1, 2]), LEFT)
        self.assertEqual(told, [[0], [2, 2, 1, 2], [0], [2, 2, 2, 1]])

    def test_a_piece_whose_upper_one_comes_later_on_the_same_track_waits(self):
        # 3 meets 1 in column 1 alone and must lie above it.
        self.assertEqual(last(rows([0, 3, 3], [1, 1, 0]), LEFT), [2, 2, 2, 1])

    def test_a_piece_that_is_not_ready_is_passed_over(self):
        # 1 must lie below 2; 3 goes on the first track behind 2.
        told = last(rows([0, 2, 3, 0], [1, 1, 0, 3]), LEFT)
        self.assertEqual(told, [2, 3, 2, 1, 1])

    def test_all_that_must_lie_above_count(self):
        # 4 lies below 1, and below 3, which lies below 2.
        told = last(rows([1, 2, 3], [4, 3, 4]), LEFT)
        self.assertEqual(told, [3, 4, 1, 1, 2, 3])

    def test_a_chain_against_the_order_of_numbers(self):
        self.assertEqual(last(rows([4, 3, 2], [3, 2, 1]), LEFT), [4, 4, 4, 3, 2, 1])

    def test_it_may_have_more_tracks_than_needed(self):
        # 1 takes the first track, so 2 comes second, and 3, which lies below 2, third.
        told = last(rows([1, 2, 1, 0, 2, 0], [0, 0, 0, 0, 3, 3]), LEFT)
        self.assertEqual(told, [3, 3, 1, 2, 3])

    def test_cut_pieces_of_one_net_share_a_track_and_a_column(self):
        told = ask(rows([1, 1, 1], [0, 0, 0]), LEFT, mode(1), LEFT)
        self.assertEqual(told[1:], [[1, 1, 1], [0], [1, 2, 1, 1]])

    def test_pieces_of_unlike_nets_that_share_an_end_column_do_not(self):
        # Cut, 1 ends in column 1, where 2 begins.
        self.assertEqual(last(rows([1, 1, 0], [0, 2, 2]), mode(1), LEFT), [2, 2, 1, 2])

    def test_a_cut_net_behind_another_one(self):
        # Net 1 lies in columns 0 to 1 and 1 to 3, net 2 in column 2: both pieces of 1 get on the first track.
        self.assertEqual(last(rows([1, 1, 2, 1], [0, 0, 0, 0]), mode(1), LEFT), [2, 3, 1, 1, 2])

    def test_cut_pieces_above_and_below_another_net(self):
        # Net 1's pieces are 0 to 1, 1 to 2, 2 to 3; net 2's lies from 0 to 2, under the first, over the others.
        told = last(rows([1, 1, 2, 1], [2, 0, 1, 0]), mode(1), LEFT)
        self.assertEqual(told, [3, 4, 1, 3, 3, 2])

    def test_a_column_with_both_pins_of_one_net(self):
        self.assertEqual(last(rows([7, 7], [7, 0]), LEFT), [1, 1, 1])
        self.assertEqual(last(rows([7, 7], [7, 7]), mode(1), LEFT), [1, 1, 1])

    def test_ring_is_refused(self):
        self.assert_refused([rows([1, 2], [2, 1])], LEFT, -8)
        self.assert_refused([rows([1, 1, 2], [2, 2, 1]), mode(1)], LEFT, -8)

    def test_a_ring_among_other_pieces_is_refused(self):
        self.assert_refused([rows([1, 2, 3, 3, 5], [2, 3, 2, 4, 0])], LEFT, -8)

    def test_cut_where_whole_has_a_ring(self):
        told = ask(rows([1, 1, 2], [2, 0, 1]), LEFT, mode(1), LEFT)
        self.assertEqual(told[1:], [[-8], [0], [3, 3, 1, 3, 2]])

    def test_long_chain(self):
        told = last(rows(range(1, 49), range(2, 50)), LEFT)
        self.assertEqual(told, [49, 49] + list(range(1, 50)))

    def test_96_pieces(self):
        told = ask(rows(range(1, 49), range(999, 951, -1)), LEFT, check([1] * 48 + [2] * 48))
        self.assertEqual(told[1:], [[2, 96] + [1] * 48 + [2] * 48, [0]])

    def test_94_cut_pieces_of_two_nets(self):
        told = last(rows([2] * 48, [1] * 48), mode(1), LEFT)
        self.assertEqual(told, [2, 94] + [2] * 47 + [1] * 47)


if __name__ == "__main__":
    unittest.main()
