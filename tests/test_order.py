"""Points 6 above, 7 levels and 8 ring."""

import unittest

from support import ABOVE, LEVELS, PIECES, RING, ask, last, mode, pin, rows

CHAIN = (list(range(1, 49)), list(range(2, 50)))
CIRCLE = (list(range(1, 49)), list(range(2, 49)) + [1])


class AboveTest(unittest.TestCase):
    def test_no_pairs(self):
        self.assertEqual(ask(ABOVE, rows([1, 0, 2], [0, 3, 2]), ABOVE), [[0], [0], [0]])

    def test_pairs_by_p_then_by_q(self):
        told = last(rows([3, 3, 1, 1], [2, 1, 4, 2]), ABOVE)
        self.assertEqual(told, [4, 0, 1, 0, 3, 2, 0, 2, 1])

    def test_a_pair_is_told_once(self):
        self.assertEqual(last(rows([1, 1, 1], [2, 2, 2]), ABOVE), [1, 0, 1])

    def test_both_ways(self):
        self.assertEqual(last(rows([1, 2], [2, 1]), ABOVE), [2, 0, 1, 1, 0])

    def test_cut_pieces_that_end_and_begin_in_the_column(self):
        # Net 1's pieces meet in column 1, net 2's too: each of the one's above each of the other's.
        told = ask(rows([1, 1, 1], [2, 2, 2]), mode(1), PIECES, ABOVE)
        self.assertEqual(told[2], [4, 1, 0, 1, 1, 1, 2, 2, 0, 1, 2, 1, 2])
        self.assertEqual(told[3], [4, 0, 2, 0, 3, 1, 2, 1, 3])

    def test_cut_pieces_touch_only_at_their_own_columns(self):
        # Piece 1 of net 1 (columns 1 to 2) doesn't cover column 0, where 1 is above 2.
        told = last(rows([1, 1, 1], [2, 0, 0]), mode(1), ABOVE)
        self.assertEqual(told, [1, 0, 2])

    def test_first_and_last_column_are_covered(self):
        told = last(rows([1, 0, 2], [3, 0, 1]), mode(1), ABOVE)
        self.assertEqual(told, [2, 0, 2, 1, 0])

    def test_pieces_of_one_net_are_not_above_one_another(self):
        self.assertEqual(last(rows([1, 1, 1], [1, 1, 1]), mode(1), ABOVE), [0])

    def test_net_covering_a_column_without_a_pin_there(self):
        self.assertEqual(last(rows([1, 2, 1], [0, 3, 0]), ABOVE), [1, 1, 2])

    def test_48_pairs(self):
        told = last(rows(*CHAIN), ABOVE)
        self.assertEqual(told, [48] + [k + d for k in range(48) for d in (0, 1)])


class LevelsTest(unittest.TestCase):
    def test_no_pieces(self):
        self.assertEqual(last(LEVELS), [0])

    def test_without_pairs(self):
        self.assertEqual(last(rows([1, 2], [0, 0]), LEVELS), [2, 1, 1])

    def test_the_greatest_of_those_above_counts(self):
        # 1 above 2 above 3, 1 above 3 too, and 4 above 3.
        told = last(rows([1, 2, 1, 4], [2, 3, 3, 3]), LEVELS)
        self.assertEqual(told, [4, 1, 2, 3, 1])

    def test_against_the_order_of_numbers(self):
        told = last(rows([4, 3, 2], [3, 2, 1]), LEVELS)
        self.assertEqual(told, [4, 4, 3, 2, 1])

    def test_long_chain(self):
        self.assertEqual(last(rows(*CHAIN), LEVELS), [49] + list(range(1, 50)))

    def test_ring_is_refused(self):
        self.assertEqual(last(rows([1, 2], [2, 1]), LEVELS), [-8])
        self.assertEqual(last(rows(*CIRCLE), LEVELS), [-8])

    def test_ring_among_other_pieces_is_refused(self):
        # 1 above 2, the ring 2, 3, and 3 above 4; 5 by itself.
        told = last(rows([1, 2, 3, 3, 5], [2, 3, 2, 4, 0]), LEVELS)
        self.assertEqual(told, [-8])

    def test_cut_where_whole_has_a_ring(self):
        told = ask(rows([1, 1, 2, 1], [2, 0, 1, 0]), LEVELS, mode(1), PIECES, LEVELS)
        self.assertEqual(told[1], [-8])
        self.assertEqual(told[3], [4, 1, 0, 1, 1, 1, 2, 1, 2, 3, 2, 0, 2])
        # Net 1's first piece lies above net 2's, the others below it.
        self.assertEqual(told[4], [4, 1, 3, 3, 2])

    def test_nothing_has_changed_after_the_refusal(self):
        told = ask(rows([1, 2], [2, 1]), PIECES, LEVELS, PIECES, ABOVE, LEVELS, pin(1, 0, 0), LEVELS)
        self.assertEqual(told[1], [2, 1, 0, 1, 2, 0, 1])
        self.assertEqual(told[2:6], [[-8], told[1], [2, 0, 1, 1, 0], [-8]])
        self.assertEqual(told[7], [2, 1, 2])


class RingTest(unittest.TestCase):
    def test_no_ring(self):
        self.assertEqual(ask(RING, rows([1, 2], [2, 3]), RING, rows(*CHAIN), RING), [[0], [0], [0], [0], [0]])

    def test_ring_of_two(self):
        self.assertEqual(last(rows([7, 3], [3, 7]), RING), [2, 0, 1])

    def test_ring_of_three_begins_with_the_least(self):
        # 3 above 2 above 1 above 3.
        self.assertEqual(last(rows([3, 2, 1], [2, 1, 3]), RING), [3, 0, 2, 1])

    def test_fewest_pieces_before_the_least_beginning(self):
        # The ring 1, 2, 3 begins with less than the ring 4, 5.
        told = last(rows([1, 2, 3, 4, 5], [2, 3, 1, 5, 4]), RING)
        self.assertEqual(told, [2, 3, 4])

    def test_of_one_size_the_least_beginning(self):
        # The rings 2, 3 and 1, 4.
        told = last(rows([2, 3, 1, 4], [3, 2, 4, 1]), RING)
        self.assertEqual(told, [2, 0, 3])

    def test_of_one_beginning_the_least_second(self):
        # The rings 1, 3 and 1, 2.
        told = last(rows([1, 3, 1, 2], [3, 1, 2, 1]), RING)
        self.assertEqual(told, [2, 0, 1])

    def test_of_one_beginning_and_size_three_the_least_at_each_place(self):
        # 1, 2, 5 and 1, 3, 4 and 1, 2, 4: of 2's two ways on the lesser.
        told = last(rows([1, 2, 5, 1, 3, 4, 2], [2, 5, 1, 3, 4, 1, 4]), RING)
        self.assertEqual(told, [3, 0, 1, 3])

    def test_a_lesser_second_that_leads_round_in_more_pieces(self):
        # The rings 1, 2, 3 and 1, 5.
        told = last(rows([1, 2, 3, 1, 5], [2, 3, 1, 5, 1]), RING)
        self.assertEqual(told, [2, 0, 3])

    def test_a_piece_above_a_ring_is_not_in_it(self):
        # 1 above 2, and 2, 3, 4 go round.
        self.assertEqual(last(rows([1, 2, 3, 4], [2, 3, 4, 2]), RING), [3, 1, 2, 3])

    def test_a_ring_of_48(self):
        self.assertEqual(last(rows(*CIRCLE), RING), [48] + list(range(48)))

    def test_cut_nets(self):
        # Whole, 1 and 2 go round; cut, 1's outer pieces lie above and below 2's.
        self.assertEqual(ask(rows([1, 1, 2], [2, 0, 1]), RING, mode(1), RING)[1:], [[2, 0, 1], [0], [0]])

    def test_a_ring_of_cut_pieces(self):
        # In column 1 both pieces of 1 lie above both of 2, in column 2 the right one of 2 above that of 1.
        told = ask(rows([1, 1, 2], [2, 2, 1]), mode(1), PIECES, RING)
        self.assertEqual(told[2], [4, 1, 0, 1, 1, 1, 2, 2, 0, 1, 2, 1, 2])
        self.assertEqual(told[3], [2, 1, 3])

    def test_a_changed_pin_breaks_the_ring(self):
        told = ask(rows([1, 2], [2, 1]), RING, pin(1, 1, 0), RING, pin(1, 1, 1), RING)
        self.assertEqual(told, [[0], [2, 0, 1], [0], [0], [0], [2, 0, 1]])


if __name__ == "__main__":
    unittest.main()
