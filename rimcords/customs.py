"""Customs: sets of lots of wishes, told by a cap for each pin and by pairs of pins that no wish joins."""

from rimcords.counts import ends_at_pins
from rimcords.errors import BadCap, BadPair
from rimcords.fences import fence_table
from rimcords.flows import flow_between
from rimcords.kinds import check_gap, check_like, check_number, check_pins, is_below, is_sequence, is_whole
from rimcords.lots import Lot
from rimcords.rims import arc


class Custom:
    """A custom; it never changes."""

    def __init__(self, pins, caps, barred=()):
        check_pins(pins)
        check_caps(pins, caps)
        self.pins = pins
        self.caps = tuple(caps)
        self.barred = sorted_pairs(pins, barred)

    def __contains__(self, wishes):
        check_like(self.pins, wishes.pins)
        for pin, many in enumerate(ends_at_pins(wishes.pins, wishes.cords)):
            if many > self.caps[pin]:
                return False
        barred = {pair: True for pair in self.barred}
        for a, b, _ in wishes.cords:
            if (a, b) in barred:
                return False
        return True


def check_caps(pins, caps):
    """There must be a whole number of at least 0 for each pin, and no more."""
    for pin in range(pins):
        if pin >= len(caps) or not is_whole(caps[pin]) or caps[pin] < 0:
            raise BadCap(pin)
    if len(caps) > pins:
        raise BadCap(pins)


def sorted_pairs(pins, pairs):
    """Each of the pairs once, with its smaller pin first, in ascending order."""
    found = {}
    for pair in pairs:
        if not is_pair(pins, pair):
            raise BadPair(pair)
        a, b = pair
        found[(min(a, b), max(a, b))] = True
    return tuple(sorted(found))


def is_pair(pins, pair):
    if not is_sequence(pair) or len(pair) != 2:
        return False
    return is_below(pair[0], pins) and is_below(pair[1], pins) and pair[0] != pair[1]


def most_across(custom, first, last):
    """The greatest number of wishes between two gaps in any lot that keeps to the custom."""
    return sum([many for _, _, many in wishes_across(custom, first, last)])


def busiest(custom, first, last):
    """A lot that keeps to the custom, with as many wishes between the two gaps as possible, and no others."""
    return Lot(custom.pins, wishes_across(custom, first, last))


def wishes_across(custom, first, last):
    """The entries of a busiest lot."""
    check_gap(custom.pins, first)
    check_gap(custom.pins, last)
    near = arc(custom.pins, first, last)
    far = [pin for pin in range(custom.pins) if pin not in near]
    barred = {pair: True for pair in custom.barred}
    free = {a: [b for b in far if (min(a, b), max(a, b)) not in barred] for a in near}
    return flow_between({a: custom.caps[a] for a in near}, {b: custom.caps[b] for b in far}, free)


def breach(board, custom, *, spare=0):
    """The first pair of gaps between which wishes of the custom and the spare units are too many, or None."""
    check_like(board.pins, custom.pins)
    check_number(spare, 0)
    held = fence_table(board)
    for first in range(len(held)):
        for last in range(first + 1, len(held)):
            # Where no wish passes, no loss does any harm.
            left = max(held[first][last] - spare, 0)
            # Most pairs are settled by the caps alone, which are much faster to count.
            if caps_across(custom, first, last) > left and most_across(custom, first, last) > left:
                return (first, last)
    return None


def caps_across(custom, first, last):
    """How many wishes the caps alone allow between two gaps, first < last, as if no pair were barred."""
    near = sum(custom.caps[first + 1:last + 1])
    return min(near, sum(custom.caps) - near)
