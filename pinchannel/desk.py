"""The desk: takes a list of calls on one new channel, and gives back what they answer."""

from pinchannel.channel import Channel
from pinchannel.fewest import MOST_PIECES, least_row
from pinchannel.order import levels_of, pairs_above, ring_of
from pinchannel.pieces import densities_of, density_of, nets_of, pieces_of
from pinchannel.refusals import HAS_RING, NOT_RIGHT, TOO_MANY_PIECES, WRONG_ROW
from pinchannel.tracks import faults_of, is_row, left_edge_row, lifted, pairs_apart, tracks_of
from pinchannel.wires import count_touched, length_of, upright_wires, wires_along

ROWS = 0
MODE = 1
PIN = 2
NETS = 3
PIECES = 4
DENSITY = 5
ABOVE = 6
LEVELS = 7
RING = 8
LEFT = 9
LEAST = 10
CHECK = 11
LIFT = 12
DRAW = 13
LENGTH = 14
MIRROR = 15
TURN = 16
RENAME = 17


class UnknownCall(ValueError):
    """Raised for a number that no call has."""


class Reader:
    """Goes through the numbers handed in, from the first to the last, and changes none."""

    def __init__(self, numbers):
        self.numbers = numbers
        self.place = 0

    def at_end(self):
        return self.place >= len(self.numbers)

    def take_number(self):
        number = self.numbers[self.place]
        self.place += 1
        return number

    def take_row(self):
        size = self.take_number()
        row = self.numbers[self.place:self.place + size]
        self.place += size
        return row


def as_list(told):
    """A list of numbers, or of tuples of numbers, behind how many there are."""
    numbers = [len(told)]
    for one in told:
        if isinstance(one, tuple):
            numbers.extend(one)
        else:
            numbers.append(one)
    return numbers


def as_row(row):
    return [tracks_of(row)] + as_list(row)


def answer_nets(channel):
    nets = nets_of(channel)
    numbers = [len(nets)]
    for net, columns in nets:
        numbers.append(net)
        numbers.extend(as_list(columns))
    return numbers


def answer_density(channel):
    return [density_of(channel)] + as_list(densities_of(channel))


def answer_above(channel):
    return as_list(pairs_above(channel, pieces_of(channel)))


def answer_levels(channel):
    pieces = pieces_of(channel)
    levels = levels_of(len(pieces), pairs_above(channel, pieces))
    if levels is None:
        return [HAS_RING]
    return as_list(levels)


def answer_ring(channel):
    pieces = pieces_of(channel)
    return as_list(ring_of(len(pieces), pairs_above(channel, pieces)))


def answer_left(channel):
    pieces = pieces_of(channel)
    above = pairs_above(channel, pieces)
    if levels_of(len(pieces), above) is None:
        return [HAS_RING]
    return as_row(left_edge_row(pieces, above))


def answer_least(channel):
    pieces = pieces_of(channel)
    above = pairs_above(channel, pieces)
    if levels_of(len(pieces), above) is None:
        return [HAS_RING]
    if len(pieces) > MOST_PIECES:
        return [TOO_MANY_PIECES]
    return as_row(least_row(len(pieces), pairs_apart(pieces), above, density_of(channel)))


def answer_draw(channel, pieces, row):
    return as_list(wires_along(pieces, row)) + as_list(upright_wires(channel, pieces, row))


def answer_length(channel, pieces, row):
    wires = wires_along(pieces, row) + upright_wires(channel, pieces, row)
    return [sum([length_of(wire) for wire in wires]), count_touched(channel, pieces)]


def answer_about_row(channel, call, row):
    """What check, lift, draw and length answer: they look at the row alike."""
    pieces = pieces_of(channel)
    if not is_row(row, len(pieces)):
        return [WRONG_ROW]
    apart = pairs_apart(pieces)
    above = pairs_above(channel, pieces)
    faults = faults_of(row, apart, above)
    if call == CHECK:
        return as_list(faults)
    if len(faults) > 0:
        return [NOT_RIGHT]
    if call == LIFT:
        return as_row(lifted(row, apart, above))
    if call == DRAW:
        return answer_draw(channel, pieces, row)
    return answer_length(channel, pieces, row)


def answer_question(channel, call):
    if call == NETS:
        return answer_nets(channel)
    if call == PIECES:
        return as_list(pieces_of(channel))
    if call == DENSITY:
        return answer_density(channel)
    if call == ABOVE:
        return answer_above(channel)
    if call == LEVELS:
        return answer_levels(channel)
    if call == RING:
        return answer_ring(channel)
    if call == LEFT:
        return answer_left(channel)
    if call == LEAST:
        return answer_least(channel)
    raise UnknownCall(f"no call has the number {call}")


def answer_change(channel, call, reader):
    if call == ROWS:
        upper_pins = reader.take_row()
        lower_pins = reader.take_row()
        return channel.put_rows(upper_pins, lower_pins)
    if call == MODE:
        return channel.put_mode(reader.take_number())
    if call == PIN:
        column = reader.take_number()
        side = reader.take_number()
        net = reader.take_number()
        return channel.put_pin(column, side, net)
    if call == MIRROR:
        return channel.mirror()
    if call == TURN:
        return channel.turn()
    net = reader.take_number()
    new = reader.take_number()
    return channel.rename(net, new)


def answer_call(channel, reader):
    call = reader.take_number()
    if call in (ROWS, MODE, PIN, MIRROR, TURN, RENAME):
        return [answer_change(channel, call, reader)]
    if call in (CHECK, LIFT, DRAW, LENGTH):
        return answer_about_row(channel, call, reader.take_row())
    return answer_question(channel, call)


def answers(calls):
    """For each call, in order, how many numbers it answers, then these."""
    reader = Reader(calls)
    channel = Channel()
    told = []
    while not reader.at_end():
        told.extend(as_list(answer_call(channel, reader)))
    return told
