"""Points 3 nets, 4 pieces and 5 density."""

import unittest

from support import DENSITY, NETS, PIECES, ask, last, mode, pin, rows


class NetsTest(unittest.TestCase):
    def test_none(self):
        self.assertEqual(ask(NETS, rows([0, 0], [0, 0]), NETS), [[0], [0], [0]])

    def test_rising_numbers_and_columns(self):
        told = last(rows([30, 2, 30, 0], [2, 100, 30, 2]), NETS)
        self.assertEqual(told, [3, 2, 3, 0, 1, 3, 30, 2, 0, 2, 100, 1, 1])

    def test_both_pins_of_a_column_are_one_pin_column(self):
        self.assertEqual(last(rows([0, 4], [0, 4]), NETS), [1, 4, 1, 1])

    def test_the_same_whole_and_cut(self):
        told = ask(rows([3, 1, 3, 3], [1, 0, 2, 1]), NETS, mode(1), NETS)
        self.assertEqual(told[1], [3, 1, 3, 0, 1, 3, 2, 1, 2, 3, 3, 0, 2, 3])
        self.assertEqual(told[3], told[1])

    def test_96_nets(self):
        told = last(rows(range(1, 49), range(999, 951, -1)), NETS)
        self.assertEqual(told[0], 96)
        self.assertEqual(told[1:4], [1, 1, 0])
        self.assertEqual(told[-3:], [999, 1, 0])
        self.assertEqual(len(told), 1 + 3 * 96)


class PiecesTest(unittest.TestCase):
    def test_none(self):
        self.assertEqual(ask(PIECES, mode(1), PIECES), [[0], [0], [0]])

    def test_whole(self):
        told = last(rows([5, 1, 5, 0, 1], [0, 2, 2, 5, 1]), PIECES)
        self.assertEqual(told, [3, 1, 1, 4, 2, 1, 2, 5, 0, 3])

    def test_cut(self):
        told = last(rows([5, 1, 5, 0, 1], [0, 2, 2, 5, 1]), mode(1), PIECES)
        self.assertEqual(told, [4, 1, 1, 4, 2, 1, 2, 5, 0, 2, 5, 2, 3])

    def test_one_pin_column(self):
        for pins in (([0, 7], [0, 0]), ([0, 0], [0, 7]), ([0, 7], [0, 7])):
            self.assertEqual(ask(rows(*pins), PIECES, mode(1), PIECES)[1:], [[1, 7, 1, 1], [0], [1, 7, 1, 1]])

    def test_cut_net_with_two_pin_columns(self):
        self.assertEqual(last(rows([7, 0, 0], [0, 0, 7]), mode(1), PIECES), [1, 7, 0, 2])

    def test_cut_net_with_both_pins_of_a_column_between(self):
        self.assertEqual(last(rows([7, 7, 0], [0, 7, 7]), mode(1), PIECES), [2, 7, 0, 1, 7, 1, 2])

    def test_pieces_follow_a_changed_pin(self):
        told = ask(rows([7, 0, 7], [0, 0, 0]), mode(1), pin(1, 1, 7), PIECES, pin(2, 0, 0), PIECES)
        self.assertEqual(told[3], [2, 7, 0, 1, 7, 1, 2])
        self.assertEqual(told[5], [1, 7, 0, 1])


class DensityTest(unittest.TestCase):
    def test_no_columns(self):
        self.assertEqual(last(DENSITY), [0, 0])

    def test_columns_without_pins(self):
        self.assertEqual(last(rows([0, 0], [0, 0]), DENSITY), [0, 2, 0, 0])

    def test_from_the_first_to_the_last_pin_column(self):
        told = last(rows([0, 1, 2, 0, 0, 0], [0, 0, 1, 0, 2, 0]), DENSITY)
        self.assertEqual(told, [2, 6, 0, 1, 2, 1, 1, 0])

    def test_nets_that_meet_in_a_column_both_count(self):
        self.assertEqual(last(rows([1, 1, 2], [0, 2, 0]), DENSITY), [2, 3, 1, 2, 1])

    def test_both_pins_of_a_column_count_once(self):
        self.assertEqual(last(rows([0, 3], [0, 3]), DENSITY), [1, 2, 0, 1])

    def test_the_greatest_stands_wherever_it_lies(self):
        self.assertEqual(last(rows([1, 0, 0], [2, 0, 0]), DENSITY), [2, 3, 2, 0, 0])
        self.assertEqual(last(rows([0, 0, 1], [0, 0, 2]), DENSITY), [2, 3, 0, 0, 2])

    def test_cut_nets_count_once_in_a_column(self):
        told = ask(rows([1, 1, 1], [2, 0, 2]), DENSITY, mode(1), DENSITY)
        self.assertEqual(told[1], [2, 3, 2, 2, 2])
        self.assertEqual(told[3], told[1])

    def test_48_nets_side_by_side_and_over_one_another(self):
        side_by_side = last(rows(range(1, 49), [0] * 48), DENSITY)
        self.assertEqual(side_by_side, [1, 48] + [1] * 48)
        nested = last(rows(list(range(1, 25)) + list(range(24, 0, -1)), [0] * 48), DENSITY)
        self.assertEqual(nested, [24, 48] + list(range(1, 25)) + list(range(24, 0, -1)))


if __name__ == "__main__":
    unittest.main()
