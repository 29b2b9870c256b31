"""Duals: boards with lands and joints exchanged; and the distances between pins."""

from rimcords.boards import Board
from rimcords.errors import BadPins, SharedLand
from rimcords.fences import land_of_gap
from rimcords.kinds import check_pin
from rimcords.walks import least_costs, steps_to


def dual(board):
    """The board whose joints are the lands of this board."""
    if board.pins == 0:
        raise BadPins(0)
    check_parted(board)
    turns = [[item for item in land[::-1] if item >= 0] for land in board.lands]
    return Board(board.pins, turns, board.widths)


def check_parted(board):
    """Each two gaps must be in different lands."""
    lands = [land_of_gap(board, gap) for gap in range(board.pins)]
    for first, land in enumerate(lands):
        if land in lands[first + 1:]:
            raise SharedLand(first, lands.index(land, first + 1))


def distance(board, one, other):
    """The least sum of widths along a way from pin to pin, or None if there is no way."""
    check_pin(board.pins, one)
    check_pin(board.pins, other)
    return distances_from(board, one)[other]


def distances(board):
    """The distances between each two pins, as rows."""
    return tuple([distances_from(board, pin) for pin in range(board.pins)])


def distances_from(board, pin):
    costs, _ = least_costs(board.turns, homes_of_ends(board), board.widths, pin)
    return tuple([costs.get(other) for other in range(board.pins)])


def homes_of_ends(board):
    return [board.joint_of(end) for end in range(2 * len(board.widths))]


def way(board, one, other):
    """A wire along a shortest way from pin to pin, without steps if they are the same, or None if there is no way."""
    check_pin(board.pins, one)
    check_pin(board.pins, other)
    homes = homes_of_ends(board)
    _, steps = least_costs(board.turns, homes, board.widths, one)
    if other not in steps:
        return None
    return steps_to(steps, homes, other)


def odd_lands(board):
    """The lands without gaps whose ends have an odd sum of widths."""
    return tuple([
        number for number, land in enumerate(board.lands)
        if min(land) >= 0 and sum([board.widths[end // 2] for end in land]) % 2 == 1
    ])
