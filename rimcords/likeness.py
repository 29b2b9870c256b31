"""Boards compared by their lots."""

from rimcords.cords import cords
from rimcords.kinds import check_like


def lots_of_both(one, two):
    """The lots of two even boards with the same number of pins."""
    check_like(one.pins, two.pins)
    return cords(one), cords(two)


def alike(one, two):
    """Whether two boards have the same lot."""
    first, second = lots_of_both(one, two)
    return first == second


def never_worse(one, two):
    """Whether all that can be laid on the second board can be laid on the first one."""
    first, second = lots_of_both(one, two)
    return second in first


def parting(one, two):
    """Wishes that can be laid on just one of the boards, or None if these are alike."""
    first, second = lots_of_both(one, two)
    if first == second:
        return None
    return first if second in first else second
