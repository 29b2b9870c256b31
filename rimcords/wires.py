"""Wires: ways along the tracks, and how many of them the tracks carry."""

from rimcords.errors import BadWire
from rimcords.fences import is_end
from rimcords.kinds import is_sequence


def is_wire(board, wire):
    """Whether this is a sequence of at least one end, each at the joint that the one before it leads to."""
    if not is_sequence(wire) or len(wire) == 0:
        return False
    for place, end in enumerate(wire):
        if not is_end(board, end):
            return False
        if place > 0 and board.joint_of(wire[place - 1] ^ 1) != board.joint_of(end):
            return False
    return True


def wire_joints(board, wire):
    """The joint where a wire begins and the joint where it arrives."""
    if not is_wire(board, wire):
        raise BadWire(wire)
    return (board.joint_of(wire[0]), board.joint_of(wire[-1] ^ 1))


def are_wires(board, wishes, wires):
    """Whether these are wires for the wishes, which the tracks can carry all together."""
    if board.pins != wishes.pins or not is_sequence(wires) or len(wires) != len(wishes):
        return False
    for (a, b, many), item in zip(wishes.cords, wires):
        if not is_sequence(item) or len(item) != many:
            return False
        for wire in item:
            if not is_wire(board, wire) or wire_joints(board, wire) != (a, b):
                return False
    return fits_widths(board, wires)


def fits_widths(board, wires):
    """Whether all steps together go along, or across, no track more often than its width says."""
    for many, width in zip(load(board, wires), board.widths):
        if many > width:
            return False
    return True


def load(board, wires):
    """How many steps of the wires go along each track."""
    steps = [0] * len(board.widths)
    for item in wires:
        for wire in item:
            for end in wire:
                steps[end // 2] += 1
    return tuple(steps)
