"""Laying: wires for wishes on boards, or the gaps between which a board carries too little."""

from rimcords.cords import cords
from rimcords.counts import check_bar, ends_at_pins, odd_pins
from rimcords.errors import OddEnds
from rimcords.fences import fence_table
from rimcords.kinds import check_like
from rimcords.routing import routed


def own_wires(board):
    """Wires on an even board for its own lot."""
    return routed(board, cords(board))


def lay(board, wishes):
    """Wires for wishes on an even board."""
    check_like(board.pins, wishes.pins)
    lot = cords(board)
    pins = odd_ends(board, wishes)
    if pins:
        raise OddEnds(pins)
    check_bar(board.pins, lot.table, wishes.table)
    return routed(board, wishes)


def odd_ends(board, wishes):
    """The pins at which the board and the wishes differ by an odd number of ends."""
    return odd_pins([board.ends(pin) for pin in range(board.pins)], ends_at_pins(wishes.pins, wishes.cords))


def lay_halves(board, wishes):
    """Wires on the board with twofold widths for twice the wishes."""
    check_like(board.pins, wishes.pins)
    check_bar(board.pins, fence_table(board), wishes.table)
    return routed(board * 2, wishes * 2)
