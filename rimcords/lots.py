"""Lots of cords: how many straight cords run between each two pins of a rim."""

from rimcords.counts import by_pair, cords_of_table, ends_at_pins, entries_of
from rimcords.counts import first_bar, gathered, odd_pins, table_rows
from rimcords.errors import NotPart, OddPin
from rimcords.kinds import check_gap, check_like, check_number, check_pin, check_pins, next_pin, place_behind


class Lot:
    """A lot of cords on a rim; it never changes."""

    def __init__(self, pins, cords=()):
        check_pins(pins)
        self.pins = pins
        self.cords = gathered(pins, cords)

    @property
    def table(self):
        """How many cords pass between each two gaps."""
        return table_rows(self.pins, self.cords)

    def between(self, one, other):
        """The number of cords between two pins."""
        check_pin(self.pins, one)
        check_pin(self.pins, other)
        return by_pair(self.cords).get((min(one, other), max(one, other)), 0)

    def ends(self, pin):
        """The number of cord ends at a pin."""
        check_pin(self.pins, pin)
        return ends_at_pins(self.pins, self.cords)[pin]

    def total(self):
        """The number of all cords."""
        return sum([entry[2] for entry in self.cords])

    def __len__(self):
        return len(self.cords)

    def __iter__(self):
        return iter(self.cords)

    def __eq__(self, other):
        return isinstance(other, Lot) and self.pins == other.pins and self.cords == other.cords

    def __add__(self, other):
        check_like(self.pins, other.pins)
        return Lot(self.pins, self.cords + other.cords)

    def __sub__(self, other):
        check_like(self.pins, other.pins)
        left = {(a, b): many for a, b, many in self.cords}
        for a, b, many in other.cords:
            if left.get((a, b), 0) < many:
                raise NotPart(a, b)
            left[(a, b)] = left[(a, b)] - many
        return Lot(self.pins, entries_of(left))

    def __mul__(self, number):
        check_number(number, 0)
        if number == 0:
            return Lot(self.pins)
        return Lot(self.pins, [(a, b, many * number) for a, b, many in self.cords])

    def __contains__(self, wishes):
        check_like(self.pins, wishes.pins)
        if odd_pins(ends_at_pins(self.pins, self.cords), ends_at_pins(self.pins, wishes.cords)):
            return False
        return first_bar(self.pins, table_rows(self.pins, self.cords), table_rows(self.pins, wishes.cords)) is None

    def turned(self, steps):
        """Pin p becomes pin p + steps, round the rim."""
        return Lot(self.pins, renamed(self.cords, [(pin + steps) % self.pins for pin in range(self.pins)]))

    def mirrored(self):
        """The pins are numbered the other way round."""
        return Lot(self.pins, renamed(self.cords, list(range(self.pins))[::-1]))

    def opened(self, gap):
        """A new pin without cords stands in the gap."""
        check_gap(self.pins, gap)
        return self.beside(Lot(1), gap=gap)

    def linked(self, gap, many=1):
        """More cords run between the two pins at the ends of the gap."""
        behind = next_pin(self.pins, gap)
        check_number(many, 1)
        return Lot(self.pins, self.cords + ((gap, behind, many),))

    def merged(self, gap):
        """The two pins at the ends of the gap are one pin."""
        behind = next_pin(self.pins, gap)
        low = min(gap, behind)
        high = max(gap, behind)
        names = list(range(high)) + [low] + list(range(high, self.pins - 1))
        return Lot(self.pins - 1, renamed(self.cords, names))

    def dropped(self, pin):
        """The pin is taken off the rim, and what ended there goes on past it."""
        check_pin(self.pins, pin)
        if self.ends(pin) % 2 == 1:
            raise OddPin(pin)
        pins = self.pins - 1
        if pins == 0:
            return Lot(0)
        return Lot(pins, cords_of_table(pins, table_without(self.pins, table_rows(self.pins, self.cords), pin)))

    def beside(self, other, *, gap=None):
        """The pins of another lot stand in the gap, with their cords."""
        first = place_behind(self.pins, gap)
        own = list(range(first)) + list(range(first + other.pins, self.pins + other.pins))
        new = list(range(first, first + other.pins))
        return Lot(self.pins + other.pins, renamed(self.cords, own) + renamed(other.cords, new))


def renamed(cords, names):
    """The entries with their pins under new names; cords whose pins have become one vanish."""
    return [(names[a], names[b], many) for a, b, many in cords if names[a] != names[b]]


def table_without(pins, table, pin):
    """The table that is left when a pin is dropped, on a rim with at least two pins.

    The gaps before and behind the pin become one, so that a way may lead in at one of them and out at the other. The
    joined gap keeps the place of the gap before the pin.
    """
    left = (pin - 1) % pins
    rows = [row_without(row, table, left, pin) for row in table]
    joined = [min(pair) for pair in zip(rows[left], rows[pin])]
    return [joined if gap == left else row for gap, row in enumerate(rows) if gap != pin]


def row_without(row, table, left, right):
    """The least numbers from one gap to all others, when the gaps `left` and `right` are joined to one."""
    to_left = row[left]
    to_right = row[right]
    least = [
        min(number, to_left + behind, to_right + before)
        for number, before, behind in zip(row, table[left], table[right])
    ]
    joined = min(to_left, to_right)
    return [joined if gap == left else number for gap, number in enumerate(least) if gap != right]
