"""Point 10 least."""

import unittest

from support import LEAST, ChannelTest, ask, last, mode, pin, rows

EIGHT_OVER_ONE_ANOTHER = (list(range(1, 9)) * 2, [0] * 16)


class LeastTest(ChannelTest):
    def test_no_pieces(self):
        self.assertEqual(ask(LEAST, rows([0], [0]), LEAST, mode(1), LEAST), [[0, 0], [0], [0, 0], [0], [0, 0]])

    def test_one_piece(self):
        for pins in (([4, 0], [0, 0]), ([4, 0], [4, 0]), ([4, 0], [0, 4])):
            self.assertEqual(last(rows(*pins), LEAST), [1, 1, 1])

    def test_the_least_at_the_first_place(self):
        # The nets over one another may be in any order, and the least number is put first.
        self.assertEqual(last(rows([9, 5, 1, 9, 5, 1], [0] * 6), LEAST), [3, 3, 1, 2, 3])

    def test_the_fewest_tracks_before_the_least_row(self):
        # On three tracks 1, 2, 3 would be less, but two are enough.
        told = last(rows([1, 2, 1, 0, 2, 0], [0, 0, 0, 0, 3, 3]), LEAST)
        self.assertEqual(told, [2, 3, 2, 1, 2])

    def test_of_the_fewest_tracks_the_least_at_each_place(self):
        # 1, 2 and 3 meet one another, and 3 lies below 2 and 4: 4 could be on track 2 as well.
        told = last(rows([1, 2, 1, 2, 4], [0, 3, 0, 0, 3]), LEAST)
        self.assertEqual(told, [3, 4, 1, 2, 3, 1])
        # 1 must lie below 2, and 3, which meets both, comes last.
        told = last(rows([2, 3, 0, 0, 3], [1, 0, 2, 1, 0]), LEAST)
        self.assertEqual(told, [3, 3, 2, 1, 3])

    def test_a_chain_against_the_order_of_numbers(self):
        self.assertEqual(last(rows([4, 3, 2], [3, 2, 1]), LEAST), [4, 4, 4, 3, 2, 1])

    def test_cut_pieces(self):
        told = ask(rows([1, 1, 2, 1], [2, 0, 1, 0]), LEAST, mode(1), LEAST)
        self.assertEqual(told[1:], [[-8], [0], [3, 4, 1, 3, 3, 2]])

    def test_cut_pieces_of_one_net_may_share_a_track(self):
        self.assertEqual(last(rows([1, 1, 1, 1], [0] * 4), mode(1), LEAST), [1, 3, 1, 1, 1])

    def test_8_pieces(self):
        self.assertEqual(last(rows(*EIGHT_OVER_ONE_ANOTHER), LEAST), [8, 8] + list(range(1, 9)))
        self.assertEqual(last(rows(range(1, 9), [0] * 8), LEAST), [1, 8] + [1] * 8)
        self.assertEqual(last(rows(range(8, 1, -1), range(7, 0, -1)), LEAST), [8, 8] + list(range(8, 0, -1)))

    def test_9_pieces(self):
        self.assert_refused([rows(range(1, 10), [0] * 9)], LEAST, -9)
        self.assert_refused([rows(list(range(1, 10)) * 2, [0] * 18)], LEAST, -9)

    def test_pieces_count_and_not_nets(self):
        eight = rows([1] * 9, [0] * 9)
        nine = rows([1] * 10, [0] * 10)
        self.assertEqual(ask(eight, mode(1), LEAST)[2], [1, 8] + [1] * 8)
        self.assertEqual(ask(nine, LEAST, mode(1), LEAST, mode(0), LEAST)[1:],
                         [[1, 1, 1], [0], [-9], [0], [1, 1, 1]])

    def test_96_pieces(self):
        self.assert_refused([rows(range(1, 49), range(999, 951, -1))], LEAST, -9)

    def test_ring_is_refused(self):
        self.assert_refused([rows([1, 2], [2, 1])], LEAST, -8)

    def test_a_ring_of_8_pieces(self):
        self.assert_refused([rows(range(1, 9), [2, 3, 4, 5, 6, 7, 8, 1])], LEAST, -8)

    def test_a_ring_is_looked_at_before_the_number_of_pieces(self):
        before = [rows([1, 2] + list(range(3, 10)), [2, 1] + [0] * 7)]
        self.assert_refused(before, LEAST, -8)
        told = ask(*before, LEAST, pin(0, 0, 0), LEAST, pin(8, 0, 0), LEAST)
        self.assertEqual(told[1:], [[-8], [0], [-9], [0], [2, 8, 2, 1, 1, 1, 1, 1, 1, 1]])


if __name__ == "__main__":
    unittest.main()
