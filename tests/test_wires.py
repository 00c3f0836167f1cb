"""Points 13 draw and 14 length. What they refuse is tested with the rows that are told as arguments."""

import unittest

from support import ask, draw, last, length, mode, rows


class WiresTest(unittest.TestCase):
    def assert_wires(self, before, row, along, upright, sums):
        flat = [len(along)] + [number for wire in along for number in wire]
        flat += [len(upright)] + [number for wire in upright for number in wire]
        self.assertEqual(ask(*before, draw(row), length(row))[len(before):], [flat, sums])

    def test_no_columns(self):
        self.assert_wires([], [], [], [], [0, 0])

    def test_columns_without_pins(self):
        self.assert_wires([rows([0, 0], [0, 0])], [], [], [], [0, 0])

    def test_an_upper_pin_alone(self):
        self.assert_wires([rows([0, 5], [0, 0])], [3], [(5, 1, 3, 1, 3)], [(5, 1, 0, 1, 3)], [3, 1])

    def test_a_lower_pin_alone(self):
        # The lower pins lie one below the row's last track.
        self.assert_wires([rows([0, 5], [0, 0]), rows([0], [5])], [3], [(5, 0, 3, 0, 3)], [(5, 0, 3, 0, 4)], [1, 1])

    def test_both_pins_of_a_column_are_one_net(self):
        self.assert_wires([rows([5], [5])], [200], [(5, 0, 200, 0, 200)], [(5, 0, 0, 0, 201)], [201, 1])
        self.assert_wires([rows([5], [5])], [1], [(5, 0, 1, 0, 1)], [(5, 0, 0, 0, 2)], [2, 1])

    def test_both_pins_of_a_column_are_unlike_nets(self):
        # The upper pin's wire comes first, though its net has the greater number.
        self.assert_wires([rows([8, 0], [2, 2])], [3, 1],
                          [(2, 0, 3, 1, 3), (8, 0, 1, 0, 1)],
                          [(8, 0, 0, 0, 1), (2, 0, 3, 0, 4), (2, 1, 3, 1, 4)],
                          [1 + 1 + 1 + 1, 3])

    def test_a_whole_net_with_pins_between(self):
        self.assert_wires([rows([1, 0, 1, 0], [0, 0, 0, 1])], [2],
                          [(1, 0, 2, 3, 2)],
                          [(1, 0, 0, 0, 2), (1, 2, 0, 2, 2), (1, 3, 2, 3, 3)],
                          [3 + 2 + 2 + 1, 3])

    def test_a_whole_net_does_not_touch_columns_without_its_pin(self):
        self.assert_wires([rows([1, 2, 1], [0, 0, 0])], [1, 2],
                          [(1, 0, 1, 2, 1), (2, 1, 2, 1, 2)],
                          [(1, 0, 0, 0, 1), (2, 1, 0, 1, 2), (1, 2, 0, 2, 1)],
                          [2 + 1 + 2 + 1, 3])

    def test_a_cut_net_on_two_tracks(self):
        # In column 1 the wire reaches from the pin over both pieces; the column counts for each of them.
        self.assert_wires([rows([1, 1, 0], [0, 0, 1]), mode(1)], [3, 1],
                          [(1, 0, 3, 1, 3), (1, 1, 1, 2, 1)],
                          [(1, 0, 0, 0, 3), (1, 1, 0, 1, 3), (1, 2, 1, 2, 4)],
                          [1 + 1 + 3 + 3 + 3, 4])

    def test_a_cut_net_with_lower_pins(self):
        self.assert_wires([rows([0, 0, 0], [1, 1, 1]), mode(1)], [5, 2],
                          [(1, 0, 5, 1, 5), (1, 1, 2, 2, 2)],
                          [(1, 0, 5, 0, 6), (1, 1, 2, 1, 6), (1, 2, 2, 2, 6)],
                          [1 + 1 + 1 + 4 + 4, 4])

    def test_a_cut_net_with_both_pins_between(self):
        self.assert_wires([rows([1, 1, 1], [0, 1, 0]), mode(1)], [1, 4],
                          [(1, 0, 1, 1, 1), (1, 1, 4, 2, 4)],
                          [(1, 0, 0, 0, 1), (1, 1, 0, 1, 5), (1, 2, 0, 2, 4)],
                          [1 + 1 + 1 + 5 + 4, 4])

    def test_a_cut_net_with_one_pin_column(self):
        self.assert_wires([rows([0, 1], [0, 0]), mode(1)], [4], [(1, 1, 4, 1, 4)], [(1, 1, 0, 1, 4)], [4, 1])

    def test_a_cut_net_on_one_track(self):
        self.assert_wires([rows([1, 1, 1], [0, 0, 0]), mode(1)], [2, 2],
                          [(1, 0, 2, 1, 2), (1, 1, 2, 2, 2)],
                          [(1, 0, 0, 0, 2), (1, 1, 0, 1, 2), (1, 2, 0, 2, 2)],
                          [1 + 1 + 2 + 2 + 2, 4])

    def test_wires_along_tracks_come_in_the_order_of_pieces(self):
        told = last(rows([9, 4, 9, 4], [0] * 4), draw([1, 2]))
        self.assertEqual(told[:11], [2, 4, 1, 1, 3, 1, 9, 0, 2, 2, 2])

    def test_the_row_has_its_greatest_number_of_tracks(self):
        # Track 7 is the last one, though the net that has the lower pin is on track 2.
        self.assert_wires([rows([3, 0], [0, 1])], [2, 7],
                          [(1, 1, 2, 1, 2), (3, 0, 7, 0, 7)],
                          [(3, 0, 0, 0, 7), (1, 1, 2, 1, 8)],
                          [7 + 6, 2])

    def test_96_pieces(self):
        told = ask(rows(range(1, 49), range(51, 99)), draw([1] * 48 + [200] * 48), length([1] * 48 + [200] * 48))
        self.assertEqual(told[1][:6], [96, 1, 0, 1, 0, 1])
        self.assertEqual(len(told[1]), 2 * (1 + 5 * 96))
        self.assertEqual(told[1][-5:], [98, 47, 200, 47, 201])
        self.assertEqual(told[2], [96, 96])

    def test_94_cut_pieces(self):
        told = ask(rows([1] * 48, [2] * 48), mode(1), draw([1] * 47 + [200] * 47), length([1] * 47 + [200] * 47))
        self.assertEqual(told[2][0], 94)
        self.assertEqual(told[2][1 + 5 * 94], 96)
        self.assertEqual(told[3], [94 + 96, 188])


if __name__ == "__main__":
    unittest.main()
