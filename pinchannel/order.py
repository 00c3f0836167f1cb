"""Which pieces must lie above which: the pairs, the levels and the ring that's told."""


def pieces_at(pieces, net, column):
    """The numbers of the net's pieces that cover the column."""
    return [k for k in range(len(pieces)) if pieces[k][0] == net and pieces[k][1] <= column <= pieces[k][2]]


def pairs_above(channel, pieces):
    """A list of all (p, q) such that piece p must lie above piece q, rising."""
    found = {}
    for column in range(len(channel.upper_pins)):
        upper_net = channel.upper_pins[column]
        lower_net = channel.lower_pins[column]
        # Where there's no pin there's no net, so no piece is found for it.
        if upper_net != lower_net:
            lower_pieces = pieces_at(pieces, lower_net, column)
            for p in pieces_at(pieces, upper_net, column):
                for q in lower_pieces:
                    found[(p, q)] = True
    return sorted(found)


def lists_below(count, pairs):
    """For each piece the pieces that it must lie above, rising."""
    below = [[] for k in range(count)]
    for p, q in pairs:
        below[p].append(q)
    return below


def lists_above(count, pairs):
    """For each piece the pieces that must lie above it, rising."""
    above = [[] for k in range(count)]
    for p, q in pairs:
        above[q].append(p)
    return above


def levels_of(count, pairs):
    """Each piece's level, or None where there's a ring."""
    below = lists_below(count, pairs)
    waits_for = [len(pieces) for pieces in lists_above(count, pairs)]
    levels = [1] * count
    ready = [k for k in range(count) if waits_for[k] == 0]
    done = 0
    while done < len(ready):
        p = ready[done]
        done += 1
        for q in below[p]:
            levels[q] = max(levels[q], levels[p] + 1)
            waits_for[q] -= 1
            if waits_for[q] == 0:
                ready.append(q)
    # The pieces of a ring wait for one another, so they never get ready.
    if done < count:
        return None
    return levels


def steps_down_to(goal, above):
    """A dict: of each piece from which one gets down to the goal, in how many steps at least."""
    steps = {goal: 0}
    reached = [goal]
    done = 0
    while done < len(reached):
        q = reached[done]
        done += 1
        for p in above[q]:
            if p not in steps:
                steps[p] = steps[q] + 1
                reached.append(p)
    return steps


def shortest_round(start, below, steps):
    """How many pieces the smallest ring through start has (0: there's none)."""
    rounds = [steps[q] + 1 for q in below[start] if q in steps]
    return min(rounds, default=0)


def ring_from(start, size, below, steps):
    """The least of the rings of that size that begin with start, no ring being smaller."""
    ring = [start]
    for left in range(size - 1, 0, -1):
        # Lists of below are rising, so the first piece that is near enough is the least.
        nearer = [q for q in below[ring[-1]] if steps.get(q) == left]
        ring.append(nearer[0])
    return ring


def ring_of(count, pairs):
    """The pieces of the ring that's told; none if there's no ring."""
    below = lists_below(count, pairs)
    above = lists_above(count, pairs)
    ring = []
    for start in range(count):
        steps = steps_down_to(start, above)
        size = shortest_round(start, below, steps)
        # Of rings of one size the first start's stays: it has the least number.
        if size > 0 and (len(ring) == 0 or size < len(ring)):
            ring = ring_from(start, size, below, steps)
    return ring
