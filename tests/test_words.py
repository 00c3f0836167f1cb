"""Many channels, answered a second time by the document's words, as slowly as they are said."""

import itertools
import random
import unittest

from support import QUESTIONS, ask, mode, rows


def said_nets(upper, lower):
    return [(net, [c for c in range(len(upper)) if net in (upper[c], lower[c])])
            for net in sorted(set(upper + lower) - {0})]


def said_pieces(upper, lower, k):
    pieces = []
    for net, columns in said_nets(upper, lower):
        if len(columns) == 1 or k == 0:
            pieces.append((net, min(columns), max(columns)))
        else:
            pieces.extend((net, a, b) for a, b in zip(columns, columns[1:]))
    return pieces


def said_density(upper, lower):
    return [sum(any(c <= column for c in columns) and any(c >= column for c in columns)
                for net, columns in said_nets(upper, lower))
            for column in range(len(upper))]


def lies_above(upper, lower, p, q):
    return p[0] != q[0] and any(upper[c] == p[0] and lower[c] == q[0] and p[1] <= c <= p[2] and q[1] <= c <= q[2]
                                for c in range(len(upper)))


def said_above(upper, lower, pieces):
    return [(p, q) for p in range(len(pieces)) for q in range(len(pieces))
            if lies_above(upper, lower, pieces[p], pieces[q])]


def said_ring(count, pairs):
    for size in range(2, count + 1):
        for ring in itertools.permutations(range(count), size):
            if all((ring[k - 1], ring[k]) in pairs for k in range(size)):
                return list(ring)
    return []


def said_level(piece, pairs):
    return 1 + max((said_level(p, pairs) for p, q in pairs if q == piece), default=0)


def flat(told):
    return [len(told)] + [number for one in told for number in one]


def said(upper, lower, k):
    """What nets, pieces, density, above, levels and ring answer."""
    nets = [(net, len(columns), *columns) for net, columns in said_nets(upper, lower)]
    pieces = said_pieces(upper, lower, k)
    density = said_density(upper, lower)
    above = said_above(upper, lower, pieces)
    ring = said_ring(len(pieces), set(above))
    levels = [-8] if ring else [len(pieces)] + [said_level(p, above) for p in range(len(pieces))]
    return [flat(nets), flat(pieces), [max(density, default=0), len(density)] + density, flat(above),
            levels, [len(ring)] + ring]


class WordsTest(unittest.TestCase):
    def assert_as_said(self, upper, lower):
        for k in (0, 1):
            if len(said_pieces(upper, lower, k)) <= 7:
                told = ask(rows(upper, lower), mode(k), *QUESTIONS)
                self.assertEqual(told[2:], said(upper, lower, k), (upper, lower, k))

    def test_all_channels_of_three_columns_and_two_nets(self):
        for size in range(4):
            for pins in itertools.product((0, 1, 2), repeat=2 * size):
                self.assert_as_said(list(pins[:size]), list(pins[size:]))

    def test_channels_of_more_columns(self):
        chance = random.Random(47)
        for trial in range(600):
            size = chance.randint(2, 9)
            nets = [0] + chance.sample(range(1, 1000), chance.randint(1, 6))
            upper = [chance.choice(nets) for c in range(size)]
            lower = [chance.choice(nets) for c in range(size)]
            self.assert_as_said(upper, lower)


if __name__ == "__main__":
    unittest.main()
