"""The wires that a right row makes: those along tracks, the upright ones, and how long they are."""

from pinchannel.channel import NO_PIN
from pinchannel.order import pieces_at
from pinchannel.tracks import tracks_of


def wires_along(pieces, row):
    """A list of (net, first column, track, last column, track), in the order of pieces."""
    return [(pieces[k][0], pieces[k][1], row[k], pieces[k][2], row[k]) for k in range(len(pieces))]


def nets_at(channel, column):
    """The nets of the column's pins, the upper one's first, each once."""
    upper_net = channel.upper_pins[column]
    lower_net = channel.lower_pins[column]
    nets = [upper_net] if upper_net == lower_net else [upper_net, lower_net]
    return [net for net in nets if net != NO_PIN]


def upright_wire(channel, pieces, row, net, column):
    # The net has a pin here, so each of its pieces that cover the column touches it.
    heights = [row[k] for k in pieces_at(pieces, net, column)]
    if channel.upper_pins[column] == net:
        heights.append(0)
    if channel.lower_pins[column] == net:
        heights.append(tracks_of(row) + 1)
    return (net, column, min(heights), column, max(heights))


def upright_wires(channel, pieces, row):
    """A list of (net, column, least height, column, greatest height), by columns."""
    wires = []
    for column in range(len(channel.upper_pins)):
        wires.extend([upright_wire(channel, pieces, row, net, column) for net in nets_at(channel, column)])
    return wires


def length_of(wire):
    # One of both is 0, as a wire runs either along a track or upright.
    return (wire[3] - wire[1]) + (wire[4] - wire[2])


def count_touched(channel, pieces):
    """How many places there are where a piece touches a column."""
    count = 0
    for column in range(len(channel.upper_pins)):
        count += sum([len(pieces_at(pieces, net, column)) for net in nets_at(channel, column)])
    return count
