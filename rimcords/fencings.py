"""Fences laid side by side: as many of them part two pins as their distance tells."""

from rimcords.cords import cords
from rimcords.duals import distances, dual, odd_lands
from rimcords.errors import OddLand
from rimcords.fences import is_fence
from rimcords.kinds import is_sequence
from rimcords.laying import own_wires
from rimcords.lots import Lot
from rimcords.rims import gaps
from rimcords.wires import fits_widths


def fences_laid(board):
    """A lot with a pin for each gap, and fences for its cords that tell the distances between the pins."""
    other = dual(board)
    lands = odd_lands(board)
    if lands:
        raise OddLand(lands[0])
    # Step by step, a wire of the dual is a fence of the board.
    return (cords(other), own_wires(other))


def are_fences_laid(board, lot, fences):
    """Whether the fences are as many as the lot tells, fit the widths, and tell the distances between the pins."""
    if not isinstance(lot, Lot) or lot.pins != gaps(board.pins):
        return False
    if not is_sequence(fences) or len(fences) != len(lot):
        return False
    for (first, last, many), item in zip(lot.cords, fences):
        if not is_sequence(item) or len(item) != many:
            return False
        for steps in item:
            if not is_fence(board, first, last, steps):
                return False
    return fits_widths(board, fences) and tells_distances(board, lot)


def tells_distances(board, lot):
    """Whether each two pins are parted by as many cords between gaps as their distance tells."""
    rows = distances(board)
    table = lot.table
    for a in range(board.pins):
        for b in range(a):
            # Pin a lies between the gaps a - 1 and a, so where the gaps count as pins, it counts as the gap a - 1.
            if table[a - 1][b - 1] != rows[a][b]:
                return False
    return True
