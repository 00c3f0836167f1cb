"""The desk: takes a list of calls on one new channel, and gives back what they answer."""

from pinchannel.channel import Channel
from pinchannel.order import levels_of, pairs_above, ring_of
from pinchannel.pieces import densities_of, nets_of, pieces_of
from pinchannel.refusals import HAS_RING

ROWS = 0
MODE = 1
PIN = 2
NETS = 3
PIECES = 4
DENSITY = 5
ABOVE = 6
LEVELS = 7
RING = 8


class UnknownCall(ValueError):
    """Raised for a number that no call has."""


class Reader:
    """Goes through the numbers handed in, from the first to the last, and changes none."""

    def __init__(self, numbers):
        self.numbers = numbers
        self.place = 0

    def at_end(self):
        return self.place >= len(self.numbers)

    def take_number(self):
        number = self.numbers[self.place]
        self.place += 1
        return number

    def take_row(self):
        size = self.take_number()
        row = self.numbers[self.place:self.place + size]
        self.place += size
        return row


def as_list(told):
    """A list of numbers, or of tuples of numbers, behind how many there are."""
    numbers = [len(told)]
    for one in told:
        if isinstance(one, tuple):
            numbers.extend(one)
        else:
            numbers.append(one)
    return numbers


def answer_nets(channel):
    nets = nets_of(channel)
    numbers = [len(nets)]
    for net, columns in nets:
        numbers.append(net)
        numbers.extend(as_list(columns))
    return numbers


def answer_density(channel):
    densities = densities_of(channel)
    return [max(densities, default=0)] + as_list(densities)


def answer_above(channel):
    return as_list(pairs_above(channel, pieces_of(channel)))


def answer_levels(channel):
    pieces = pieces_of(channel)
    levels = levels_of(len(pieces), pairs_above(channel, pieces))
    if levels is None:
        return [HAS_RING]
    return as_list(levels)


def answer_ring(channel):
    pieces = pieces_of(channel)
    return as_list(ring_of(len(pieces), pairs_above(channel, pieces)))


def answer_question(channel, call):
    if call == NETS:
        return answer_nets(channel)
    if call == PIECES:
        return as_list(pieces_of(channel))
    if call == DENSITY:
        return answer_density(channel)
    if call == ABOVE:
        return answer_above(channel)
    if call == LEVELS:
        return answer_levels(channel)
    if call == RING:
        return answer_ring(channel)
    raise UnknownCall(f"no call has the number {call}")


def answer_call(channel, reader):
    call = reader.take_number()
    if call == ROWS:
        upper_pins = reader.take_row()
        lower_pins = reader.take_row()
        return [channel.put_rows(upper_pins, lower_pins)]
    if call == MODE:
        return [channel.put_mode(reader.take_number())]
    if call == PIN:
        column = reader.take_number()
        side = reader.take_number()
        net = reader.take_number()
        return [channel.put_pin(column, side, net)]
    return answer_question(channel, call)


def answers(calls):
    """For each call, in order, how many numbers it answers, then these."""
    reader = Reader(calls)
    channel = Channel()
    told = []
    while not reader.at_end():
        told.extend(as_list(answer_call(channel, reader)))
    return told
