"""What boards hold beyond some wishes: losses of width, room for more wishes, and the share that can be laid."""

from math import gcd

from rimcords.counts import check_bar
from rimcords.errors import NoWishes, SamePin
from rimcords.fences import fence, fence_table
from rimcords.kinds import check_like, check_number, check_pin
from rimcords.lots import Lot
from rimcords.routing import routed


def gaps_passed(wishes):
    """The pairs of gaps, first < last, in ascending order, between which wishes pass."""
    table = wishes.table
    return [
        (first, last) for first in range(len(table)) for last in range(first + 1, len(table)) if table[first][last] > 0
    ]


def survives(board, wishes, lost):
    """Whether the wishes can still be laid in halves after every loss of so many units of width."""
    return weak_gaps(board, wishes, lost) is None


def weak_gaps(board, wishes, lost):
    """The first two gaps between which such a loss leaves too little width for the wishes, or None."""
    check_like(board.pins, wishes.pins)
    check_number(lost, 0)
    held = fence_table(board)
    wished = wishes.table
    for first, last in gaps_passed(wishes):
        if wished[first][last] + lost > held[first][last]:
            return (first, last)
    return None


def loss(board, wishes, lost):
    """A loss of so many units of width at most, after which the wishes cannot be laid in halves, or None."""
    pair = weak_gaps(board, wishes, lost)
    if pair is None:
        return None
    first, last = pair
    # A least fence crosses no track twice, so each unit taken off its tracks makes it one cheaper.
    tracks = sorted([end // 2 for end in fence(board, first, last)])
    cost = sum([board.widths[track] for track in tracks])
    return taken(board, tracks, cost + 1 - wishes.table[first][last])


def taken(board, tracks, units):
    """So many units of width taken from the tracks, the first ones first, as pairs of a track and an amount."""
    pairs = []
    left = units
    for track in tracks:
        if left > 0:
            amount = min(left, board.widths[track])
            pairs.append((track, amount))
            left -= amount
    return tuple(pairs)


def room(board, wishes, one, other):
    """The greatest number of wishes between two pins that can be laid in halves together with the others."""
    check_like(board.pins, wishes.pins)
    check_pin(board.pins, one)
    check_pin(board.pins, other)
    if one == other:
        raise SamePin(one)
    held = fence_table(board)
    wished = wishes.table
    check_bar(board.pins, held, wished)
    more = Lot(board.pins, [(one, other, 1)])
    return min([held[first][last] - wished[first][last] for first, last in gaps_passed(more)])


def share(board, wishes):
    """The greatest fraction of all wishes that the fences allow, as its numerator and its denominator."""
    check_like(board.pins, wishes.pins)
    if len(wishes) == 0:
        raise NoWishes()
    held = fence_table(board)
    wished = wishes.table
    least = None
    for first, last in gaps_passed(wishes):
        cost = held[first][last]
        many = wished[first][last]
        if least is None or cost * least[1] < least[0] * many:
            least = (cost, many)
    common = gcd(least[0], least[1])
    return (least[0] // common, least[1] // common)


def share_wires(board, wishes):
    """Wires for this fraction of the wishes, with all numbers doubled and multiplied by the denominator."""
    number, parts = share(board, wishes)
    return routed(board * (2 * parts), wishes * (2 * number))
