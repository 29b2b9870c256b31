"""Odd ends: wishes that leave the rest of some tracks unused, so that ends at some pins stay single."""

from rimcords.counts import first_bar
from rimcords.errors import TooMany
from rimcords.fences import check_even, fence_table
from rimcords.kinds import check_like, is_below, is_sequence, is_whole
from rimcords.laying import odd_ends
from rimcords.lots import Lot
from rimcords.rims import gaps
from rimcords.routing import routed

MOST = 8


def pairings(pins):
    """Yields all pairings of different pins in ascending order."""
    for pairing in all_paired(tuple(pins)):
        yield pairing


def all_paired(pins):
    """All pairings in order; an odd number of pins has none."""
    if len(pins) == 0:
        return [()]
    return [
        ((pins[0], pins[at]),) + rest
        for at in range(1, len(pins)) for rest in all_paired(pins[1:at] + pins[at + 1:])
    ]


def odd_pairings(board, wishes):
    """The pairings of the pins at which an even board and the wishes differ by an odd number of ends."""
    check_like(board.pins, wishes.pins)
    check_even(board)
    pins = odd_ends(board, wishes)
    if len(pins) > MOST:
        raise TooMany(len(pins))
    return list(pairings(pins))


def with_pairs(wishes, pairing):
    """The wishes with one more for each pair."""
    return wishes + Lot(wishes.pins, [(p, q, 1) for p, q in pairing])


def lay_some(board, wishes):
    """Wires for the wishes on an even board, whatever is left of the tracks, or None if there are none."""
    held = fence_table(board)
    for pairing in odd_pairings(board, wishes):
        more = with_pairs(wishes, pairing)
        if first_bar(board.pins, held, more.table) is None:
            return wires_for(wishes, more, routed(board, more))
    return None


def wires_for(wishes, more, wires):
    """Of wires for more wishes, those for the wishes alone."""
    found = []
    for (a, b, _), item in zip(more.cords, wires):
        many = wishes.between(a, b)
        if many > 0:
            found.append(item[:many])
    return tuple(found)


def refusals(board, wishes):
    """For each pairing of the odd pins the first gaps that refuse it, or None if there are wires for the wishes."""
    held = fence_table(board)
    found = []
    for pairing in odd_pairings(board, wishes):
        pair = first_bar(board.pins, held, with_pairs(wishes, pairing).table)
        if pair is None:
            return None
        found.append((pairing, pair[0], pair[1]))
    return tuple(found)


def are_refusals(board, wishes, items):
    """Whether the items tell for each pairing of the odd pins two gaps that refuse it."""
    due = odd_pairings(board, wishes)
    if not is_sequence(items) or len(items) != len(due):
        return False
    held = fence_table(board)
    for pairing, item in zip(due, items):
        if not is_refusal(held, with_pairs(wishes, pairing), pairing, item):
            return False
    return True


def is_refusal(held, more, pairing, item):
    """Whether the item tells the pairing and two gaps between which more pass than are held."""
    if not is_sequence(item) or len(item) != 3 or not is_pairing(pairing, item[0]):
        return False
    first, last = item[1:]
    if not is_below(first, gaps(more.pins)) or not is_below(last, gaps(more.pins)):
        return False
    return more.table[first][last] > held[first][last]


def is_pairing(pairing, told):
    """Whether what is told is just this pairing, written as lists or as tuples."""
    if not is_sequence(told) or len(told) != len(pairing):
        return False
    for (p, q), pair in zip(pairing, told):
        if not is_sequence(pair) or len(pair) != 2 or not is_whole(pair[0]) or not is_whole(pair[1]):
            return False
        if pair[0] != p or pair[1] != q:
            return False
    return True
