"""A channel: its two rows of pins, and whether its nets are whole or cut."""

from pinchannel.refusals import NO_SUCH_COLUMN, OUT_OF_RANGE, WRONG_LENGTH

DONE = 0
MOST_COLUMNS = 48
NO_PIN = 0
GREATEST_NET = 999
UPPER_SIDE = 0
LOWER_SIDE = 1
WHOLE_NETS = 0
CUT_NETS = 1


def is_pin(number):
    return NO_PIN <= number <= GREATEST_NET


def are_pins(numbers):
    return all([is_pin(number) for number in numbers])


class Channel:
    """What the calls of one list change; each change answers DONE or a refusal."""

    def __init__(self):
        self.upper_pins = []
        self.lower_pins = []
        self.mode = WHOLE_NETS

    def put_rows(self, upper_pins, lower_pins):
        if len(upper_pins) != len(lower_pins) or len(upper_pins) > MOST_COLUMNS:
            return WRONG_LENGTH
        if not are_pins(upper_pins) or not are_pins(lower_pins):
            return OUT_OF_RANGE
        self.upper_pins = list(upper_pins)
        self.lower_pins = list(lower_pins)
        return DONE

    def put_mode(self, mode):
        if mode != WHOLE_NETS and mode != CUT_NETS:
            return OUT_OF_RANGE
        self.mode = mode
        return DONE

    def put_pin(self, column, side, net):
        # A negative column would be counted from the right by Python.
        if column < 0 or column >= len(self.upper_pins):
            return NO_SUCH_COLUMN
        if side != UPPER_SIDE and side != LOWER_SIDE:
            return OUT_OF_RANGE
        if not is_pin(net):
            return OUT_OF_RANGE
        if side == UPPER_SIDE:
            self.upper_pins[column] = net
        else:
            self.lower_pins[column] = net
        return DONE
