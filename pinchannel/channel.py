"""A channel: its two rows of pins, and whether its nets are whole or cut."""

from pinchannel.refusals import NET_IS_THERE, NO_SUCH_COLUMN, NO_SUCH_NET, OUT_OF_RANGE, WRONG_ROW

DONE = 0
MOST_COLUMNS = 48
NO_PIN = 0
LEAST_NET = 1
GREATEST_NET = 999
UPPER_SIDE = 0
LOWER_SIDE = 1
WHOLE_NETS = 0
CUT_NETS = 1


def is_net_number(number):
    return LEAST_NET <= number <= GREATEST_NET


def is_pin(number):
    return number == NO_PIN or is_net_number(number)


def are_pins(numbers):
    return all([is_pin(number) for number in numbers])


def renamed(pins, net, new):
    return [new if pin == net else pin for pin in pins]


class Channel:
    """What the calls of one list change; each change answers DONE or a refusal."""

    def __init__(self):
        self.upper_pins = []
        self.lower_pins = []
        self.mode = WHOLE_NETS

    def has_net(self, net):
        return net != NO_PIN and (net in self.upper_pins or net in self.lower_pins)

    def put_rows(self, upper_pins, lower_pins):
        if len(upper_pins) != len(lower_pins) or len(upper_pins) > MOST_COLUMNS:
            return WRONG_ROW
        if not are_pins(upper_pins) or not are_pins(lower_pins):
            return OUT_OF_RANGE
        self.upper_pins = list(upper_pins)
        self.lower_pins = list(lower_pins)
        return DONE

    def put_mode(self, mode):
        if mode != WHOLE_NETS and mode != CUT_NETS:
            return OUT_OF_RANGE
        self.mode = mode
        return DONE

    def put_pin(self, column, side, net):
        # A negative column would be counted from the right by Python.
        if column < 0 or column >= len(self.upper_pins):
            return NO_SUCH_COLUMN
        if side != UPPER_SIDE and side != LOWER_SIDE:
            return OUT_OF_RANGE
        if not is_pin(net):
            return OUT_OF_RANGE
        if side == UPPER_SIDE:
            self.upper_pins[column] = net
        else:
            self.lower_pins[column] = net
        return DONE

    def mirror(self):
        self.upper_pins = list(reversed(self.upper_pins))
        self.lower_pins = list(reversed(self.lower_pins))
        return DONE

    def turn(self):
        former_upper = self.upper_pins
        self.upper_pins = self.lower_pins
        self.lower_pins = former_upper
        return DONE

    def rename(self, net, new):
        if not self.has_net(net):
            return NO_SUCH_NET
        if not is_net_number(new):
            return OUT_OF_RANGE
        if new != net and self.has_net(new):
            return NET_IS_THERE
        self.upper_pins = renamed(self.upper_pins, net, new)
        self.lower_pins = renamed(self.lower_pins, net, new)
        return DONE
