"""Drawings as plain values: pins, turns of joints, and widths of tracks; boards are made from this.

Nothing here knows the class of boards, so that the class can use it. Tracks have two ends, 2 * track and
2 * track + 1, so `end ^ 1` is the other end of an end; the gap i is written as -1 - i.
"""

from rimcords.errors import BadTurn, BadWidth, DoubleEnd, LooseJoint, MissingEnd, NotPlane
from rimcords.kinds import check_pins, is_below, is_sequence, is_whole
from rimcords.rims import gaps


def check_parts(pins, turns, widths):
    """Whether pins, turns and widths are such numbers and sequences at all."""
    check_pins(pins)
    for track, width in enumerate(widths):
        if not is_whole(width) or width < 1:
            raise BadWidth(track)
    if len(turns) < pins:
        raise BadTurn(len(turns))
    for joint, turn in enumerate(turns):
        if not is_turn(turn, 2 * len(widths)):
            raise BadTurn(joint)


def is_turn(turn, ends):
    if not is_sequence(turn):
        return False
    for end in turn:
        if not is_below(end, ends):
            return False
    return True


def joints_of_ends(turns, ends):
    """The joint of each end; every end must stand in the turns just once."""
    joints = {}
    for joint, turn in enumerate(turns):
        for end in turn:
            if end in joints:
                raise DoubleEnd(end)
            joints[end] = joint
    for end in range(ends):
        if end not in joints:
            raise MissingEnd(end)
    return tuple([joints[end] for end in range(ends)])


def joined(pins, turns, joints):
    """For each joint, whether tracks join it to a pin."""
    reached = [joint < pins for joint in range(len(turns))]
    fresh = list(range(pins))
    while fresh:
        turn = turns[fresh.pop()]
        for end in turn:
            joint = joints[end ^ 1]
            if not reached[joint]:
                reached[joint] = True
                fresh.append(joint)
    return reached


def check_joined(pins, turns, joints):
    for joint, is_reached in enumerate(joined(pins, turns, joints)):
        if not is_reached:
            raise LooseJoint(joint)


def items_behind(pins, turns):
    """For each item of a walk along a land, the item that comes behind it."""
    behind = {-1 - gap: item_behind_gap(pins, turns, gap) for gap in range(gaps(pins))}
    for joint, turn in enumerate(turns):
        for place, end in enumerate(turn):
            if place + 1 < len(turn):
                behind[end ^ 1] = turn[place + 1]
            elif joint < pins:
                behind[end ^ 1] = -1 - (joint - 1) % pins
            else:
                behind[end ^ 1] = turn[0]
    return behind


def item_behind_gap(pins, turns, gap):
    if pins == 0:
        return -1
    if turns[gap]:
        return turns[gap][0]
    return -1 - (gap - 1) % pins


def lands_of(pins, turns, ends):
    """The lands, each as the tuple of its items."""
    behind = items_behind(pins, turns)
    walked = {}
    lands = []
    for start in [-1 - gap for gap in range(gaps(pins))] + list(range(ends)):
        if start not in walked:
            land = []
            item = start
            while item not in walked:
                walked[item] = True
                land.append(item)
                item = behind[item]
            lands.append(tuple(land))
    return tuple(lands)


def check_plane(pins, joints, tracks, found):
    due = tracks + pins + 1 - joints
    if found != due:
        raise NotPlane(found, due)


def form_of(pins, turns, widths, joints):
    """Turns and widths with joints and tracks numbered in the order in which they are met from the pins on."""
    begun = {pin: turns[pin] for pin in range(pins)}
    order = list(range(pins))
    names = {}
    met = []
    at = 0
    while at < len(order):
        turn = begun[order[at]]
        for end in turn:
            if end not in names:
                names[end] = 2 * len(met)
                names[end ^ 1] = 2 * len(met) + 1
                met.append(widths[end // 2])
            joint = joints[end ^ 1]
            if joint not in begun:
                begun[joint] = begun_with(turns[joint], end ^ 1)
                order.append(joint)
        at += 1
    return (pins, tuple([renamed_ends(begun[joint], names) for joint in order]), tuple(met))


def begun_with(turn, end):
    """The turn of an inner joint, begun with this end."""
    place = turn.index(end)
    return turn[place:] + turn[:place]


def renamed_ends(turn, names):
    return tuple([names[end] for end in turn])


def without_tracks(turns, widths, kept):
    """Turns and widths when only the tracks told by `kept` remain, in their order."""
    names = {}
    left = []
    for track, width in enumerate(widths):
        if kept[track]:
            names[2 * track] = 2 * len(left)
            names[2 * track + 1] = 2 * len(left) + 1
            left.append(width)
    return tuple([renamed_ends([end for end in turn if end in names], names) for turn in turns]), tuple(left)


def without_loose(pins, turns, widths):
    """Turns and widths without the joints that tracks do not join to a pin, and without the tracks at these."""
    joints = joints_of_ends(turns, 2 * len(widths))
    reached = joined(pins, turns, joints)
    kept = [reached[joints[2 * track]] for track in range(len(widths))]
    left = tuple([turn for joint, turn in enumerate(turns) if reached[joint]])
    return without_tracks(left, widths, kept)
