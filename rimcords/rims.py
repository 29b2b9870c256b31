"""Rims: pins in a circle, numbered clockwise, and the gaps between them."""


def gaps(pins):
    """The number of gaps on a rim."""
    return max(pins, 1)


def arc(pins, first, last):
    """The pins that one passes going clockwise from the gap `first` to the gap `last`."""
    if first == last:
        return ()
    many = (last - first) % pins
    return tuple([(first + step) % pins for step in range(1, many + 1)])


def parts(pins, one, other, first, last):
    """Whether exactly one of two pins lies between two gaps."""
    passed = arc(pins, first, last)
    return (one in passed) != (other in passed)


def crosses(a, b, c, d):
    """Whether four different pins are such that a cord from a to b crosses one from c to d."""
    low = min(a, b)
    high = max(a, b)
    if c == a or c == b or d == a or d == b:
        return False
    return (low < c < high) != (low < d < high)
