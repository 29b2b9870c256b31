"""Parts not chosen yet: the least lots that a part of a larger board must have, so that wishes fit the whole board."""

from rimcords.counts import ends_at_pins, first_bar
from rimcords.errors import Refused, TooMany
from rimcords.kinds import check_pins
from rimcords.lots import Lot
from rimcords.rims import gaps
from rimcords.surroundings import hole_alone
from rimcords.tables import odd

MOST_PINS = 4
MOST_ACROSS = 2


def least_fillers(pins, course, wishes):
    """All least lots for the place round which the course is done, so that the wishes fit the lot that it leaves."""
    check_pins(pins)
    if pins > MOST_PINS:
        raise TooMany(pins)
    most = max([max(row) for row in wishes.table])
    if most > MOST_ACROSS:
        raise TooMany(most)
    # A course that can be done on one lot can be done on all that are odd at the same pins.
    possible = [lots for lots in classes(pins, max(most, 1)) if can_be_done(course, lots[0], wishes)]
    if not possible:
        return ()
    # Costs above `most` make no difference, so this is far enough where no way leads.
    around = course(hole_alone(pins, most + 1)).costs
    if first_bar(wishes.pins, around, wishes.table) is not None:
        return ()
    size = gaps(wishes.pins)
    past = [row[size:] for row in around[size:]]
    due = costs_due(around, wishes.table)
    found = []
    for lots in possible:
        found.extend(least_of([lot for lot in lots if is_good(lot, past, due)]))
    return tuple([Lot(pins, cords) for cords in sorted(found)])


def classes(pins, most):
    """All lots with at most so many cords between each two pins, one list for all that are odd at the same pins."""
    found = {}
    for cords in all_cords(pins, most):
        odds = tuple([many % 2 for many in ends_at_pins(pins, cords)])
        found.setdefault(odds, []).append(Lot(pins, cords))
    return list(found.values())


def all_cords(pins, most):
    found = [()]
    for a in range(pins):
        for b in range(a + 1, pins):
            found = [
                cords + (((a, b, many),) if many > 0 else ()) for cords in found for many in range(most + 1)
            ]
    return found


def can_be_done(course, filler, wishes):
    """Whether the course can be done on the filler and leaves a lot that is odd where the wishes are."""
    try:
        lot = course(filler)
    except Refused:
        return False
    return lot.pins == wishes.pins and odd(lot, wishes) == ()


def costs_due(around, table):
    """What the ways across the hole, from gap to gap of it, must cost at least, so that wishes with this table fit.

    `around` holds the costs of the ways round the hole, between the gaps of the rim and, behind them, of the hole.
    """
    size = len(table)
    holes = range(size, len(around))
    return [
        [
            max([wished - around[i][a] - around[b][j] for i, row in enumerate(table) for j, wished in enumerate(row)])
            for b in holes
        ]
        for a in holes
    ]


def is_good(filler, past, due):
    """Whether the ways across the filler, where they may also lead past it from gap to gap, cost what is due."""
    costs = [[min(pair) for pair in zip(row, others)] for row, others in zip(filler.table, past)]
    return first_bar(filler.pins, shortened(costs), due) is None


def shortened(costs):
    """The costs of cheapest ways from place to place, if each step costs as much as is told."""
    rows = [list(row) for row in costs]
    places = range(len(rows))
    for over in places:
        for i in places:
            for j in places:
                rows[i][j] = min(rows[i][j], rows[i][over] + rows[over][j])
    return rows


def least_of(lots):
    """Of lots that are odd at the same pins, the cords of those which no other one fits."""
    least = []
    # A lot that fits another one has a lower table, so it comes first.
    for _, cords, table in sorted([(sum([sum(row) for row in lot.table]), lot.cords, lot.table) for lot in lots]):
        if all([first_bar(len(table), table, lower) is not None for _, lower in least]):
            least.append((cords, table))
    return [cords for cords, _ in least]
