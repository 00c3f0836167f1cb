"""The row with the fewest tracks: of all right rows with so many tracks the least."""

from pinchannel.order import lists_above
from pinchannel.tracks import lists_apart

MOST_PIECES = 8


def mask_of(pieces):
    """Some pieces as one number: bit k is piece k."""
    return sum([1 << k for k in pieces])


def row_with(track, rest):
    """The row of a track's pieces and of the rest, which lies one track further down (0: neither)."""
    row = []
    for k in range(len(rest)):
        if track & (1 << k):
            row.append(1)
        elif rest[k] > 0:
            row.append(rest[k] + 1)
        else:
            row.append(0)
    return row


class Filling:
    """Fills tracks from the uppermost one on; there must be no ring."""

    def __init__(self, count, apart, above):
        self.piece_count = count
        self.every_piece = (1 << count) - 1
        self.parted = [mask_of(pieces) for pieces in lists_apart(count, apart)]
        self.higher = [mask_of(pieces) for pieces in lists_above(count, above)]
        self.known_rests = {}

    def ready_pieces(self, put):
        """The pieces that aren't put yet, with all put that must lie above them."""
        return [k for k in range(self.piece_count) if not put & (1 << k) and self.higher[k] & put == self.higher[k]]

    def full_tracks(self, put):
        """What the next track may hold so that none of the ready pieces could be on it too."""
        ready = self.ready_pieces(put)
        tracks = [0]
        for k in ready:
            tracks = tracks + [track | (1 << k) for track in tracks if track & self.parted[k] == 0]
        return [track for track in tracks if self.is_full(track, ready)]

    def is_full(self, track, ready):
        return all([track & ((1 << k) | self.parted[k]) != 0 for k in ready])

    def least_rest(self, put, left):
        """The least row of the pieces not put yet (0 for the others) on the tracks left, or None."""
        if put == self.every_piece:
            return [0] * self.piece_count
        if left == 0:
            return None
        if (put, left) not in self.known_rests:
            self.known_rests[(put, left)] = self.find_rest(put, left)
        return self.known_rests[(put, left)]

    def find_rest(self, put, left):
        found = None
        # In the least row no piece could be on an earlier track, so only full tracks are tried.
        for track in self.full_tracks(put):
            rest = self.least_rest(put | track, left - 1)
            if rest is not None:
                row = row_with(track, rest)
                if found is None or row < found:
                    found = row
        return found


def least_row(count, apart, above, density):
    """The least of the right rows with the fewest tracks."""
    filling = Filling(count, apart, above)
    # The nets over a column need a track each, so fewer tracks needn't be tried.
    tracks = density
    row = filling.least_rest(0, tracks)
    while row is None:
        tracks += 1
        row = filling.least_rest(0, tracks)
    return row
