"""Pairings of rows: lots with exactly one cord end at each pin."""

from rimcords.counts import ends_at_pins
from rimcords.errors import BadLanes, BadPairing
from rimcords.kinds import is_below, is_whole
from rimcords.lots import Lot
from rimcords.moves import crossings
from rimcords.oddends import all_paired
from rimcords.rows import Row, check_lanes
from rimcords.strands import lot_of_mates, mates_joined, mates_of_lot


def has_single_ends(lot):
    """Whether the lot has exactly one cord end at each pin."""
    return ends_at_pins(lot.pins, lot.cords) == [1] * lot.pins


def joined(first, second, lanes):
    """The pairing of two rows one behind the other, with so many lanes between them, from their pairings."""
    for lot in (first, second):
        if not has_single_ends(lot):
            raise BadPairing(lot)
    if not is_below(lanes, min(first.pins, second.pins) + 1):
        raise BadLanes(lanes)
    mates = mates_of_lot(first.beside(second))
    for lane in range(lanes):
        # The lower end of this lane has come to stand just before the upper one.
        mates = mates_joined(mates, first.pins - 1 - lane)
    return lot_of_mates(mates)


def alike_rows(one, two):
    """Whether two rows can be exchanged everywhere."""
    return one.top == two.top and one.bottom == two.bottom and one.pairing == two.pairing


def tight(row):
    """Whether no row alike to this one has fewer crossings."""
    return row.crossings() == crossings(row.pairing)


def row_of(top, bottom, pairing):
    """A tight row with these numbers of lanes and this pairing.

    It joins by caps what leads from the top back to the top, then crosses the other strands, and then begins by cups
    what leads from the bottom to the bottom, so that it never has more lanes than at its top or at its bottom.
    """
    for lanes in (top, bottom):
        if not is_whole(lanes) or lanes < 0:
            raise BadLanes(lanes)
    if pairing.pins != top + bottom or not has_single_ends(pairing):
        raise BadPairing(pairing)
    mates = mates_of_lot(pairing)
    caps, upper = capped(mates, list(range(top)))
    cups, lower = capped(mates, list(range(top, top + bottom))[::-1])
    middle = crossed([lower.index(mates[pin]) for pin in upper])
    return Row(top, caps) >> Row(len(upper), middle) >> Row(bottom, cups).flipped()


def capped(mates, pins):
    """The letters that join all pairs of mates among the pins, which stand from left to right; and the pins left."""
    letters = []
    left = list(pins)
    near = nearest_mates(mates, left)
    while near is not None:
        one, other = near
        # Each strand in between leads out from between the two, so it must cross their cord, and does so once.
        letters.extend([("cross", lane) for lane in range(one, other - 1)])
        letters.append(("cap", other - 1))
        left = left[:one] + left[one + 1:other] + left[other + 1:]
        near = nearest_mates(mates, left)
    return letters, left


def nearest_mates(mates, pins):
    """The places of two mates among the pins with no other two mates between them, or None."""
    found = {}
    for other, pin in enumerate(pins):
        if mates[pin] in found:
            return (found[mates[pin]], other)
        found[pin] = other
    return None


def crossed(goals):
    """The letters that lead strands to these different places, where each two strands cross at most once."""
    letters = []
    order = list(goals)
    for place in range(len(order)):
        lane = place - 1
        while lane >= 0 and order[lane] > order[lane + 1]:
            order[lane], order[lane + 1] = order[lane + 1], order[lane]
            letters.append(("cross", lane))
            lane -= 1
    return letters


def rest(row):
    """The smallest number of at least 1 whose power of the row is alike to the next power, and its pairing."""
    check_lanes(row.bottom, row.top)
    single = row.pairing
    number = 1
    power = single
    following = joined(power, single, row.top)
    while power != following:
        number += 1
        power = following
        following = joined(power, single, row.top)
    return (number, power)


def all_pairings(top, bottom):
    """Yields every lot with exactly one cord end at each of the pins, in ascending order of the cords."""
    for pairs in all_paired(tuple(range(top + bottom))):
        yield Lot(top + bottom, [(a, b, 1) for a, b in pairs])
