"""Many channels, answered a second time by the document's words, as slowly as they are said."""

import itertools
import random
import unittest

from support import MIRROR, QUESTIONS, TURN, ask, check, draw, length, lift, mode, rename, rows

# So many rows are gone through for least at most.
MOST_ROWS = 70000


def said_nets(upper, lower):
    return [(net, [c for c in range(len(upper)) if net in (upper[c], lower[c])])
            for net in sorted(set(upper + lower) - {0})]


def said_pieces(upper, lower, k):
    pieces = []
    for net, columns in said_nets(upper, lower):
        if len(columns) == 1 or k == 0:
            pieces.append((net, min(columns), max(columns)))
        else:
            pieces.extend((net, a, b) for a, b in zip(columns, columns[1:]))
    return pieces


def said_density(upper, lower):
    return [sum(any(c <= column for c in columns) and any(c >= column for c in columns)
                for net, columns in said_nets(upper, lower))
            for column in range(len(upper))]


def lies_above(upper, lower, p, q):
    return p[0] != q[0] and any(upper[c] == p[0] and lower[c] == q[0] and p[1] <= c <= p[2] and q[1] <= c <= q[2]
                                for c in range(len(upper)))


def said_above(upper, lower, pieces):
    return [(p, q) for p in range(len(pieces)) for q in range(len(pieces))
            if lies_above(upper, lower, pieces[p], pieces[q])]


def said_ring(count, pairs):
    for size in range(2, count + 1):
        for ring in itertools.permutations(range(count), size):
            if all((ring[k - 1], ring[k]) in pairs for k in range(size)):
                return list(ring)
    return []


def said_level(piece, pairs):
    return 1 + max((said_level(p, pairs) for p, q in pairs if q == piece), default=0)


def flat(told):
    return [len(told)] + [number for one in told for number in one]


def covered(piece):
    return set(range(piece[1], piece[2] + 1))


def said_apart(pieces):
    return [(p, q) for p, q in itertools.combinations(range(len(pieces)), 2)
            if pieces[p][0] != pieces[q][0] and covered(pieces[p]) & covered(pieces[q])]


def is_right(row, apart, above):
    return all(row[p] != row[q] for p, q in apart) and all(row[p] < row[q] for p, q in above)


def flat_row(row):
    return [max(row, default=0), len(row)] + list(row)


def goes_behind(piece, put):
    return not put or put[-1][2] < piece[1] or (put[-1][2] == piece[1] and put[-1][0] == piece[0])


def said_left(pieces, above):
    row = {}
    track = 0
    while len(row) < len(pieces):
        track += 1
        put = []
        for k in sorted(range(len(pieces)), key=lambda k: (pieces[k][1], pieces[k][2], k)):
            earlier = all(row.get(p, track) < track for p, q in above if q == k)
            if k not in row and earlier and goes_behind(pieces[k], put):
                row[k] = track
                put.append(pieces[k])
    return [row[k] for k in range(len(pieces))]


def said_least(count, apart, above):
    """The least right row, or None if there would be too many to go through."""
    tracks = 0
    while tracks ** count <= MOST_ROWS:
        for row in itertools.product(range(1, tracks + 1), repeat=count):
            if is_right(row, apart, above):
                return row
        tracks += 1
    return None


def said_faults(row, apart, above):
    return ([(1, p, q) for p, q in apart if row[p] == row[q]] +
            [(2, p, q) for p, q in above if not row[p] < row[q]])


def first_lift(row, apart, above):
    for k in range(len(row)):
        for track in range(1, row[k]):
            changed = row[:k] + [track] + row[k + 1:]
            if is_right(changed, apart, above):
                return changed
    return None


def said_lift(row, apart, above):
    changed = list(row)
    while changed is not None:
        row = changed
        changed = first_lift(row, apart, above)
    return row


def touched(upper, lower, piece):
    return [c for c in sorted(covered(piece)) if piece[0] in (upper[c], lower[c])]


def said_upright(upper, lower, pieces, row, net, column):
    heights = [row[k] for k in range(len(pieces))
               if pieces[k][0] == net and column in touched(upper, lower, pieces[k])]
    heights += [0] * (upper[column] == net) + [max(row) + 1] * (lower[column] == net)
    return (net, column, min(heights), column, max(heights))


def said_draw(upper, lower, pieces, row):
    along = [(net, first, track, end, track) for (net, first, end), track in zip(pieces, row)]
    upright = []
    for column in range(len(upper)):
        for net in dict.fromkeys((upper[column], lower[column])):
            if net != 0:
                upright.append(said_upright(upper, lower, pieces, row, net, column))
    return along, upright


def said_length(upper, lower, pieces, row):
    along, upright = said_draw(upper, lower, pieces, row)
    return [sum(wire[3] - wire[1] for wire in along) + sum(wire[4] - wire[2] for wire in upright),
            sum(len(touched(upper, lower, piece)) for piece in pieces)]


def said_of_row(upper, lower, k, row):
    """What check, lift, draw and length answer."""
    pieces = said_pieces(upper, lower, k)
    apart = said_apart(pieces)
    above = said_above(upper, lower, pieces)
    faults = flat(said_faults(row, apart, above))
    if not is_right(row, apart, above):
        return [faults, [-10], [-10], [-10]]
    along, upright = said_draw(upper, lower, pieces, row)
    return [faults, flat_row(said_lift(row, apart, above)), flat(along) + flat(upright),
            said_length(upper, lower, pieces, row)]


def said(upper, lower, k):
    """What the questions answer; None for least if it would take too long."""
    nets = [(net, len(columns), *columns) for net, columns in said_nets(upper, lower)]
    pieces = said_pieces(upper, lower, k)
    density = said_density(upper, lower)
    above = said_above(upper, lower, pieces)
    ring = said_ring(len(pieces), set(above))
    told = [flat(nets), flat(pieces), [max(density, default=0), len(density)] + density, flat(above)]
    if ring:
        return told + [[-8], [len(ring)] + ring, [-8], [-8]]
    least = said_least(len(pieces), said_apart(pieces), above)
    return told + [[len(pieces)] + [said_level(p, above) for p in range(len(pieces))], [0],
                   flat_row(said_left(pieces, above)), None if least is None else flat_row(least)]


def some_row(chance, upper, lower, k):
    """A row that is right if there's no ring, most often: the left-edge row, pulled apart and shaken."""
    pieces = said_pieces(upper, lower, k)
    above = said_above(upper, lower, pieces)
    if said_ring(len(pieces), set(above)):
        return [chance.randint(1, 3) for piece in pieces]
    apart = said_apart(pieces)
    row = [track * chance.randint(1, 2) + chance.randint(0, 3) for track in said_left(pieces, above)]
    for trial in range(20):
        if row and not is_right(row, apart, above):
            row[chance.randrange(len(row))] = chance.randint(1, 2 * len(row))
    return row


def some_channel(chance, most_columns, most_nets):
    size = chance.randint(2, most_columns)
    nets = [0] * chance.randint(1, 4) + chance.sample(range(1, 1000), chance.randint(1, most_nets))
    return [chance.choice(nets) for c in range(size)], [chance.choice(nets) for c in range(size)]


class WordsTest(unittest.TestCase):
    def assert_as_said(self, upper, lower):
        for k in (0, 1):
            if len(said_pieces(upper, lower, k)) <= 7:
                told = ask(rows(upper, lower), mode(k), *QUESTIONS)[2:]
                expected = said(upper, lower, k)
                if expected[-1] is None:
                    expected[-1] = told[-1]
                self.assertEqual(told, expected, (upper, lower, k))

    def assert_rows_as_said(self, upper, lower, k, row):
        told = ask(rows(upper, lower), mode(k), check(row), lift(row), draw(row), length(row))[2:]
        self.assertEqual(told, said_of_row(upper, lower, k, row), (upper, lower, k, row))
        return told[-1] != [-10]

    def test_all_channels_of_three_columns_and_two_nets(self):
        for size in range(4):
            for pins in itertools.product((0, 1, 2), repeat=2 * size):
                self.assert_as_said(list(pins[:size]), list(pins[size:]))

    def test_channels_of_more_columns(self):
        chance = random.Random(47)
        for trial in range(600):
            size = chance.randint(2, 9)
            nets = [0] + chance.sample(range(1, 1000), chance.randint(1, 6))
            upper = [chance.choice(nets) for c in range(size)]
            lower = [chance.choice(nets) for c in range(size)]
            self.assert_as_said(upper, lower)

    def test_least_with_up_to_8_pieces(self):
        chance = random.Random(10)
        gone_through = {}
        while min([gone_through.get(count, 0) for count in range(4, 9)]) < 25:
            upper, lower = some_channel(chance, 12, 8)
            k = chance.randint(0, 1)
            pieces = said_pieces(upper, lower, k)
            told = ask(rows(upper, lower), mode(k), QUESTIONS[-1])[2]
            if len(pieces) <= 8 and told != [-8] and gone_through.get(len(pieces), 0) < 60:
                least = said_least(len(pieces), said_apart(pieces), said_above(upper, lower, pieces))
                if least is not None:
                    self.assertEqual(told, flat_row(least), (upper, lower, k))
                    gone_through[len(pieces)] = gone_through.get(len(pieces), 0) + 1

    def test_all_rows_of_small_channels(self):
        for upper, lower in (([1, 2, 1, 3], [2, 3, 0, 0]), ([1, 2, 3, 1], [0, 1, 2, 3]), ([2, 0, 2, 1], [1, 2, 1, 1]),
                             ([1, 1, 1], [2, 0, 2]), ([3, 1, 2, 3], [3, 0, 0, 2])):
            for k in (0, 1):
                count = len(said_pieces(upper, lower, k))
                for row in itertools.product(range(1, 5), repeat=count):
                    self.assert_rows_as_said(upper, lower, k, list(row))

    def test_rows_of_more_channels(self):
        chance = random.Random(11)
        right = 0
        for trial in range(1500):
            upper, lower = some_channel(chance, 9, 6)
            k = chance.randint(0, 1)
            if len(said_pieces(upper, lower, k)) <= 7:
                right += self.assert_rows_as_said(upper, lower, k, some_row(chance, upper, lower, k))
        self.assertGreater(right, 400)

    def test_greater_channels(self):
        # Here the slow ring would take too long, so nets lie above those with greater numbers alone.
        chance = random.Random(12)
        for trial in range(30):
            size = chance.randint(10, 20)
            columns = [sorted(chance.sample(range(1, 15), 2)) for c in range(size)]
            upper = [chance.choice((0, a)) for a, b in columns]
            lower = [chance.choice((0, b)) for a, b in columns]
            for k in (0, 1):
                pieces = said_pieces(upper, lower, k)
                left = said_left(pieces, said_above(upper, lower, pieces))
                self.assertEqual(ask(rows(upper, lower), mode(k), [9])[2], flat_row(left))
                self.assert_rows_as_said(upper, lower, k, [3 * track for track in left])
                spread = sorted(chance.sample(range(1, 60), max(left, default=0)))
                self.assert_rows_as_said(upper, lower, k, [spread[track - 1] for track in left])

    def test_changes_one_after_another(self):
        chance = random.Random(13)
        for trial in range(60):
            upper, lower = some_channel(chance, 6, 4)
            calls = [rows(upper, lower)]
            for step in range(6):
                what = chance.randint(15, 17)
                if what == 15:
                    calls.append(MIRROR)
                    upper, lower = upper[::-1], lower[::-1]
                elif what == 16:
                    calls.append(TURN)
                    upper, lower = lower, upper
                else:
                    net, new = chance.choice(upper + lower), chance.randint(0, 1000)
                    calls.append(rename(net, new))
                    if net != 0 and 1 <= new <= 999 and new not in upper + lower:
                        upper = [new if number == net else number for number in upper]
                        lower = [new if number == net else number for number in lower]
            pieces = said_pieces(upper, lower, 0)
            if len(pieces) <= 6:
                row = some_row(chance, upper, lower, 0)
                told = ask(*calls, *QUESTIONS, check(row), lift(row), draw(row), length(row))[len(calls):]
                self.assertEqual(told, said(upper, lower, 0) + said_of_row(upper, lower, 0, row), calls)


if __name__ == "__main__":
    unittest.main()
