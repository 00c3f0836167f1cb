"""Rows of tracks: what's wrong of a row, the left-edge row, and lifting a row."""

from pinchannel.order import lists_above

LEAST_TRACK = 1
GREATEST_TRACK = 200
ONE_TRACK = 1
NOT_ABOVE = 2


def is_row(row, count):
    """Whether these numbers may be told as a row for so many pieces."""
    return len(row) == count and all([LEAST_TRACK <= track <= GREATEST_TRACK for track in row])


def tracks_of(row):
    return max(row, default=0)


def must_part(piece, other):
    """Whether two pieces are of unlike nets and cover a column in common."""
    return piece[0] != other[0] and piece[1] <= other[2] and other[1] <= piece[2]


def pairs_apart(pieces):
    """A list of all (p, q), p less than q, that can't be on one track, rising."""
    pairs = []
    for p in range(len(pieces)):
        pairs.extend([(p, q) for q in range(p + 1, len(pieces)) if must_part(pieces[p], pieces[q])])
    return pairs


def lists_apart(count, apart):
    """For each piece the pieces that can't be on its track."""
    lists = [[] for k in range(count)]
    for p, q in apart:
        lists[p].append(q)
        lists[q].append(p)
    return lists


def faults_of(row, apart, above):
    """A list of (kind, p, q); none if the row is right."""
    shared = [(ONE_TRACK, p, q) for p, q in apart if row[p] == row[q]]
    return shared + [(NOT_ABOVE, p, q) for p, q in above if row[p] >= row[q]]


def follows(piece, before):
    """Whether the left-edge row puts a piece behind the one that was put on its track last."""
    return before[2] < piece[1] or (before[2] == piece[1] and before[0] == piece[0])


def fill_track(track, waiting, pieces, higher, row):
    """Puts on the track what of the waiting pieces gets on it; 0 in the row is not put yet."""
    last_put = None
    for k in waiting:
        # A piece on this very track isn't on an earlier one.
        ready = all([0 < row[p] < track for p in higher[k]])
        if ready and (last_put is None or follows(pieces[k], last_put)):
            row[k] = track
            last_put = pieces[k]


def left_edge_row(pieces, above):
    """The left-edge row; there must be no ring, else some pieces are never put."""
    higher = lists_above(len(pieces), above)
    row = [0] * len(pieces)
    by_columns = sorted([(pieces[k][1], pieces[k][2], k) for k in range(len(pieces))])
    waiting = [k for first, last, k in by_columns]
    track = 0
    while len(waiting) > 0:
        track += 1
        fill_track(track, waiting, pieces, higher, row)
        waiting = [k for k in waiting if row[k] == 0]
    return row


def least_track(row, parted, higher):
    """The least track for a piece of a right row: below those above it, and off those it can't be with."""
    track = LEAST_TRACK + max([row[p] for p in higher], default=0)
    for taken in sorted([row[q] for q in parted]):
        if taken == track:
            track += 1
    return track


def lifted(row, apart, above):
    """What becomes of a right row by lifting the first piece that can be lifted, as long as there's one."""
    parted = lists_apart(len(row), apart)
    higher = lists_above(len(row), above)
    lifted_row = list(row)
    may_rise = [True] * len(row)
    k = 0
    while k < len(row):
        former = lifted_row[k]
        if may_rise[k]:
            lifted_row[k] = least_track(lifted_row, parted[k], higher[k])
            may_rise[k] = False
        if lifted_row[k] == former:
            k += 1
        else:
            # Only a piece that can't be on the track left, and lies below it, gets a track to rise to.
            for q in parted[k]:
                may_rise[q] = may_rise[q] or lifted_row[q] > former
            k = 0
    return lifted_row
