"""What counts as a number, a sequence, a pin or a gap, and the errors for what does not."""

from rimcords.errors import BadGap, BadNumber, BadPin, BadPins, NoPair, UnlikePins
from rimcords.rims import gaps


def is_whole(value):
    return isinstance(value, int) and not isinstance(value, bool)


def is_sequence(value):
    return isinstance(value, (list, tuple))


def is_below(value, bound):
    """Whether the value is one of the whole numbers 0, 1, .., bound - 1."""
    return is_whole(value) and 0 <= value < bound


def check_pins(pins):
    if not is_whole(pins) or pins < 0:
        raise BadPins(pins)


def check_pin(pins, pin):
    if not is_below(pin, pins):
        raise BadPin(pin)


def check_gap(pins, gap):
    if not is_below(gap, gaps(pins)):
        raise BadGap(gap)


def check_like(one, other):
    """Two numbers of pins must be the same."""
    if one != other:
        raise UnlikePins(one, other)


def check_number(number, least):
    if not is_whole(number) or number < least:
        raise BadNumber(number)


def next_pin(pins, gap):
    """The pin behind the gap; the gap must be one between two pins."""
    check_gap(pins, gap)
    if pins < 2:
        raise NoPair(pins)
    return (gap + 1) % pins


def place_behind(pins, gap):
    """The number that the first new pin gets in the gap, where None means the last gap."""
    if gap is None:
        return pins
    check_gap(pins, gap)
    return min(gap + 1, pins)
