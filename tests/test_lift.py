"""Point 12 lift. What it refuses is tested with the rows that are told as arguments."""

import unittest

from support import ask, check, last, lift, mode, rows

TWO_OVER_ONE_ANOTHER = rows([1, 2, 1, 2], [0] * 4)


class LiftTest(unittest.TestCase):
    def test_no_pieces(self):
        self.assertEqual(ask(lift([]), rows([0], [0]), lift([])), [[0, 0], [0], [0, 0]])

    def test_one_piece(self):
        for track in (1, 2, 199, 200):
            self.assertEqual(last(rows([1], [0]), lift([track])), [1, 1, 1])

    def test_pieces_side_by_side(self):
        self.assertEqual(last(rows([1, 2, 3], [0] * 3), lift([3, 200, 2])), [1, 3, 1, 1, 1])

    def test_pieces_over_one_another(self):
        for row in ([1, 2], [1, 200], [2, 3], [3, 2], [200, 199], [200, 2]):
            self.assertEqual(last(TWO_OVER_ONE_ANOTHER, lift(row)), [2, 2, 1, 2], row)
        self.assertEqual(last(TWO_OVER_ONE_ANOTHER, lift([2, 1])), [2, 2, 2, 1])
        self.assertEqual(last(TWO_OVER_ONE_ANOTHER, lift([200, 1])), [2, 2, 2, 1])

    def test_a_piece_stays_below_those_that_must_lie_above_it(self):
        for row in ([2, 1], [200, 199], [200, 1], [3, 2]):
            self.assertEqual(last(rows([2], [1]), lift(row)), [2, 2, 2, 1], row)

    def test_a_chain_against_the_order_of_pieces(self):
        self.assertEqual(last(rows([4, 3, 2], [3, 2, 1]), lift([200, 150, 100, 50])), [4, 4, 4, 3, 2, 1])

    def test_a_piece_passes_others_that_it_is_not_bound_to(self):
        # Piece 0 passes pieces 1 and 2, which meet it.
        told = last(rows([1, 2, 3, 1, 2, 3], [0] * 6), lift([4, 3, 2]))
        self.assertEqual(told, [3, 3, 1, 3, 2])

    def test_the_least_track_and_not_the_next_one(self):
        # Track 2 is free for piece 0 too, but track 1 is less; piece 1 gets track 2 then.
        told = last(TWO_OVER_ONE_ANOTHER, lift([3, 4]))
        self.assertEqual(told, [2, 2, 1, 2])

    def test_a_gap_between_taken_tracks(self):
        # Piece 2 finds 1 taken and 2 free; 3 stays taken until then.
        told = last(rows([1, 2, 3, 1, 2, 3], [0] * 6), lift([1, 3, 5]))
        self.assertEqual(told, [3, 3, 1, 2, 3])

    def test_pieces_are_looked_for_anew(self):
        # Piece 1 rises to 1; then piece 0, below it, takes track 2 ahead of piece 2.
        told = last(rows([2, 3, 4, 3], [0, 0, 0, 2]), lift([4, 2, 3]))
        self.assertEqual(told, [3, 3, 2, 1, 3])

    def test_pieces_are_looked_for_anew_with_cut_nets(self):
        told = last(rows([3, 2, 3], [0, 1, 0]), mode(1), lift([4, 2, 3]))
        self.assertEqual(told, [3, 3, 2, 1, 3])

    def test_cut_pieces_of_one_net_meet_on_one_track(self):
        self.assertEqual(last(rows([1, 1, 1], [0] * 3), mode(1), lift([2, 7])), [1, 2, 1, 1])

    def test_cut_pieces_above_and_below_another_net(self):
        told = last(rows([1, 1, 2, 1], [2, 0, 1, 0]), mode(1), lift([10, 200, 30, 20]))
        self.assertEqual(told, [3, 4, 1, 3, 3, 2])

    def test_a_row_that_nothing_lifts_stays(self):
        self.assertEqual(last(rows([1, 2], [2, 3]), lift([1, 2, 3])), [3, 3, 1, 2, 3])

    def test_it_need_not_reach_the_fewest_tracks(self):
        told = last(rows([1, 2, 1, 0, 2, 0], [0, 0, 0, 0, 3, 3]), lift([1, 2, 3]))
        self.assertEqual(told, [3, 3, 1, 2, 3])

    def test_a_long_chain_from_the_lowest_tracks(self):
        chain = rows(range(49, 1, -1), range(48, 0, -1))
        told = ask(chain, lift(range(200, 151, -1)), lift(range(196, 0, -4)), check(range(49, 0, -1)))
        lowest = [49, 49] + list(range(49, 0, -1))
        self.assertEqual(told[1:], [lowest, lowest, [0]])

    def test_96_pieces(self):
        told = last(rows(range(1, 49), range(51, 99)), lift([199] * 48 + [200] * 48))
        self.assertEqual(told, [2, 96] + [1] * 48 + [2] * 48)


if __name__ == "__main__":
    unittest.main()
