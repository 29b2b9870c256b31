"""All lots that can be had from a lot by moves."""

from rimcords.errors import TooMany
from rimcords.lots import Lot
from rimcords.moves import moved, moves

MOST = 6


def below(lot):
    """Yields the lots that can be had from the lot, itself among them, in ascending order of their cords."""
    if lot.total() > MOST:
        raise TooMany(lot.total())
    found = {lot.cords: True}
    fresh = [lot]
    while fresh:
        upper = fresh.pop()
        for move in moves(upper):
            lower = moved(upper, move)
            if lower.cords not in found:
                found[lower.cords] = True
                fresh.append(lower)
    for cords in sorted(found):
        yield Lot(lot.pins, cords)
