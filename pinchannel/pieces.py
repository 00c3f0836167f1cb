"""The nets of a channel, their pieces, and how dense the columns are."""

from pinchannel.channel import CUT_NETS, NO_PIN


def nets_of(channel):
    """A list of (net, its pin columns), both rising."""
    found = {}
    for column in range(len(channel.upper_pins)):
        for net in (channel.upper_pins[column], channel.lower_pins[column]):
            columns = found.get(net, [])
            # A net that has both pins of a column has that column once.
            if net != NO_PIN and column not in columns:
                found[net] = columns + [column]
    return [(net, found[net]) for net in sorted(found)]


def pieces_of_net(net, columns, mode):
    if mode == CUT_NETS and len(columns) > 1:
        return [(net, columns[k], columns[k + 1]) for k in range(len(columns) - 1)]
    return [(net, columns[0], columns[-1])]


def pieces_of(channel):
    """A list of (net, first column, last column); a piece's number is its place here."""
    pieces = []
    for net, columns in nets_of(channel):
        pieces.extend(pieces_of_net(net, columns, channel.mode))
    return pieces


def densities_of(channel):
    densities = [0] * len(channel.upper_pins)
    # Nets are counted, not pieces: a cut net's pieces share their end columns.
    for net, columns in nets_of(channel):
        for column in range(columns[0], columns[-1] + 1):
            densities[column] += 1
    return densities


def density_of(channel):
    return max(densities_of(channel), default=0)
