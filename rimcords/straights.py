"""Straight boards: boards whose tracks run straight from pin to pin, for a given lot of cords."""

from rimcords.boards import Board
from rimcords.rims import crosses


def straight(lot):
    """An even board for the lot, with one inner joint for each two entries of its cords that cross.

    Each entry is one straight line across the disc, cut into tracks at the joints. The lines never meet three at a
    joint: they are drawn as they lie when the pins stand on a parabola, each one very much farther out than the one
    before it.
    """
    meetings = [lines_met(lot.cords, line) for line in range(len(lot.cords))]
    firsts = first_tracks(meetings)
    turns = [pin_turn(lot, pin, firsts) for pin in range(lot.pins)]
    for line, others in enumerate(meetings):
        for place, other in enumerate(others):
            # The line that begins at the smaller pin is the one that makes the joint.
            if line < other:
                turns.append(joint_turn(firsts[line] + place, firsts[other] + meetings[other].index(line)))
    widths = [many for place, (_, _, many) in enumerate(lot.cords) for _ in range(len(meetings[place]) + 1)]
    return Board(lot.pins, turns, widths)


def lines_met(entries, line):
    """The numbers of the entries that a line crosses, in the order in which it does so, from its smaller pin on.

    It meets first those that come from before its own smaller pin: near this pin, the one that leads the least far
    first. Then it meets those that begin behind this pin: each near its own smaller pin.
    """
    a, b, _ = entries[line]
    found = []
    for other, (c, d, _) in enumerate(entries):
        if crosses(a, b, c, d):
            found.append((0, d, -c, other) if c < a else (1, c, -d, other))
    return [other for _, _, _, other in sorted(found)]


def first_tracks(meetings):
    """The number of the first track of each line; a line has one track more than joints."""
    firsts = []
    track = 0
    for others in meetings:
        firsts.append(track)
        track += len(others) + 1
    return firsts + [track]


def pin_turn(lot, pin, firsts):
    """The ends of lines at a pin, in clockwise order."""
    found = []
    for line, (a, b, _) in enumerate(lot.cords):
        if a == pin:
            found.append((b - pin, 2 * firsts[line]))
        elif b == pin:
            found.append((a - pin + lot.pins, 2 * firsts[line + 1] - 1))
    return [end for _, end in sorted(found)]


def joint_turn(one, other):
    """The turn of the joint behind the tracks `one` and `other` of two lines, where `one` begins at a smaller pin."""
    return (2 * one + 1, 2 * other + 1, 2 * one + 2, 2 * other + 2)
