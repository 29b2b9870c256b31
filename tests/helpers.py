"""Lots and plain definitions that the tests share."""

from rimcords.lots import Lot

BIG = 10 ** 9
# What is no whole number; each place that asks for one must tell its error for all of these.
NO_NUMBERS = (True, False, None, 1.0, "1", (1,), [0])


def raised(test, error, fields, call, *args, **named):
    """Checks that a call raises an error of just this class, with these fields, and returns the error."""
    with test.assertRaises(error) as caught:
        call(*args, **named)
    test.assertIs(error, caught.exception.__class__)
    for name, value in fields.items():
        found = getattr(caught.exception, name)
        test.assertEqual(value, found)
        test.assertIs(value.__class__, found.__class__)
    return caught.exception


def only_tuples(value):
    """Whether no list, set or dict is in the value at any level."""
    if isinstance(value, tuple):
        return all(only_tuples(item) for item in value)
    return not isinstance(value, (list, set, dict))


def as_lists(value):
    """The value with lists in the place of tuples, at every level."""
    if isinstance(value, tuple):
        return [as_lists(item) for item in value]
    return value


def random_lot(rng, pins, entries, most=1):
    if pins < 2:
        return Lot(pins)
    return Lot(pins, [(*rng.sample(range(pins), 2), rng.randint(1, most)) for _ in range(entries)])


def full_lot(pins, many=BIG):
    return Lot(pins, [(a, b, many) for a in range(pins) for b in range(a + 1, pins)])


def plain_arc(pins, first, last):
    """The pins passed clockwise from gap to gap, by going from gap to gap."""
    passed = []
    gap = first
    while gap != last:
        gap = (gap + 1) % pins
        passed.append(gap)
    return tuple(passed)


def plain_parts(pins, one, other, first, last):
    passed = plain_arc(pins, first, last)
    return (one in passed) != (other in passed)


def plain_table(lot):
    """The table by its definition, entry by entry."""
    size = max(lot.pins, 1)
    return tuple(
        tuple(sum(n for a, b, n in lot.cords if plain_parts(lot.pins, a, b, i, j)) for j in range(size))
        for i in range(size)
    )


def plain_fits(wishes, lot):
    """Whether the wishes fit the lot, by the definition."""
    for row, wished in zip(plain_table(lot), plain_table(wishes)):
        if any(many < want for many, want in zip(row, wished)):
            return False
    return all((lot.ends(pin) - wishes.ends(pin)) % 2 == 0 for pin in range(lot.pins))


def all_lots(pins, most):
    """All lots with at most `most` cords."""
    pairs = [(a, b) for a in range(pins) for b in range(a + 1, pins)]
    found = [()]
    for a, b in pairs:
        found = [
            cords + (((a, b, n),) if n else ())
            for cords in found for n in range(most + 1 - sum(entry[2] for entry in cords))
        ]
    return [Lot(pins, cords) for cords in found]
