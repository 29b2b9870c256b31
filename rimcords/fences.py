"""Fences: ways from gap to gap across the tracks, and what they cost."""

from rimcords.errors import BadItem, OddJoint
from rimcords.kinds import check_gap, is_below, is_sequence, is_whole
from rimcords.rims import gaps
from rimcords.tables import lot_of
from rimcords.walks import least_costs, steps_to


def land_of_gap(board, gap):
    return board.land_at(-1 - gap)


def check_gaps(board, first, last):
    check_gap(board.pins, first)
    check_gap(board.pins, last)


def check_even(board):
    joints = board.odd_joints()
    if joints:
        raise OddJoint(joints[0])


def is_end(board, step):
    return is_below(step, 2 * len(board.widths))


def is_fence(board, first, last, steps):
    """Whether the steps are a fence from one gap to another one."""
    check_gaps(board, first, last)
    if not is_sequence(steps):
        return False
    land = land_of_gap(board, first)
    for step in steps:
        if not is_end(board, step) or board.land_at(step) != land:
            return False
        land = board.land_at(step ^ 1)
    return land == land_of_gap(board, last)


def fence_cost(board, steps):
    """The sum of the widths of the tracks that the steps cross."""
    cost = 0
    for step in steps:
        if not is_end(board, step):
            raise BadItem(step)
        cost += board.widths[step // 2]
    return cost


def lands_of_ends(board):
    return [board.land_at(end) for end in range(2 * len(board.widths))]


def prices(board, gap):
    """The least cost of the crossings that lead from the land of the gap to each land."""
    check_gap(board.pins, gap)
    costs, _ = least_costs(board.lands, lands_of_ends(board), board.widths, land_of_gap(board, gap))
    return tuple([costs[land] for land in range(len(board.lands))])


def is_price_row(board, row):
    """Whether these are numbers for the lands that differ at no track by more than its width."""
    if not is_sequence(row) or len(row) != len(board.lands):
        return False
    for number in row:
        if not is_whole(number):
            return False
    for track, width in enumerate(board.widths):
        if abs(row[board.land_at(2 * track)] - row[board.land_at(2 * track + 1)]) > width:
            return False
    return True


def fence(board, first, last):
    """A fence of the least cost from one gap to another one."""
    check_gaps(board, first, last)
    homes = lands_of_ends(board)
    _, steps = least_costs(board.lands, homes, board.widths, land_of_gap(board, first))
    return steps_to(steps, homes, land_of_gap(board, last))


def fence_table(board):
    """The least costs of fences between each two gaps, in the form of the table of a lot."""
    lands = [land_of_gap(board, gap) for gap in range(gaps(board.pins))]
    rows = [prices(board, gap) for gap in range(gaps(board.pins))]
    return tuple([tuple([row[land] for land in lands]) for row in rows])


def cords_by_fences(board):
    """The lot whose table is the fence table of an even board."""
    check_even(board)
    return lot_of(board.pins, fence_table(board))
