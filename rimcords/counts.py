"""Counting with plain entries (a, b, n), a < b, and plain tables; lots and tables are both made from this.

Nothing here knows the class of lots, so that the class can use it.
"""

from rimcords.errors import BadCord, Barred
from rimcords.kinds import is_below, is_sequence, is_whole
from rimcords.rims import gaps


def is_entry(pins, entry):
    if not is_sequence(entry) or len(entry) != 3:
        return False
    a, b, many = entry
    return is_below(a, pins) and is_below(b, pins) and a != b and is_whole(many) and many >= 1


def gathered(pins, entries):
    """The entries of a lot, checked, added up for each two pins, and sorted."""
    held = {}
    for entry in entries:
        if not is_entry(pins, entry):
            raise BadCord(entry)
        a, b, many = entry
        pair = (min(a, b), max(a, b))
        held[pair] = held.get(pair, 0) + many
    return tuple([(a, b, held[(a, b)]) for a, b in sorted(held)])


def by_pair(cords):
    """The numbers of cords under their pairs of pins."""
    return {(a, b): many for a, b, many in cords}


def entries_of(held):
    """The entries for numbers of cords under pairs of pins, without those that are 0."""
    return [(a, b, held[(a, b)]) for a, b in held if held[(a, b)] > 0]


def ends_at_pins(pins, cords):
    """The number of cord ends at each pin."""
    ends = [0] * pins
    for a, b, many in cords:
        ends[a] = ends[a] + many
        ends[b] = ends[b] + many
    return ends


def cord_grid(pins, cords):
    """The number of cords between each two pins, as rows."""
    rows = [[0] * pins for _ in range(pins)]
    for a, b, many in cords:
        rows[a][b] = many
        rows[b][a] = many
    return rows


def sums_before(row):
    """For each place of a row, and for its end, the sum of the numbers before it."""
    sums = [0]
    total = 0
    for number in row:
        total = total + number
        sums.append(total)
    return sums


def table_rows(pins, cords):
    """The table of the lot with these cords."""
    sums = [sums_before(row) for row in cord_grid(pins, cords)]
    size = gaps(pins)
    rows = [[0] * size for _ in range(size)]
    for i in range(size):
        across = 0
        for j in range(i + 1, size):
            # Behind pin j its cords pass, but those to the pins i + 1 .. j - 1 do so no longer.
            across = across + sums[j][pins] - 2 * (sums[j][j] - sums[j][i + 1])
            rows[i][j] = across
            rows[j][i] = across
    return tuple([tuple(row) for row in rows])


def twice_between(pins, table, a, b):
    """Twice the number of cords between two pins, as the table tells it."""
    before_a = (a - 1) % pins
    before_b = (b - 1) % pins
    return table[a][b] + table[before_a][before_b] - table[a][before_b] - table[before_a][b]


def cords_of_table(pins, table):
    """The entries of the lot with the given table, which must be the table of a lot."""
    entries = [(a, b, twice_between(pins, table, a, b) // 2) for a in range(pins) for b in range(a + 1, pins)]
    return [entry for entry in entries if entry[2] > 0]


def first_bar(pins, held, wished):
    """The first pair of gaps at which the table `wished` is greater than the table `held`, or None."""
    for i in range(gaps(pins)):
        for j in range(i + 1, gaps(pins)):
            if wished[i][j] > held[i][j]:
                return (i, j)
    return None


def check_bar(pins, held, wished):
    """Nowhere may the table `wished` be greater than the table `held`."""
    pair = first_bar(pins, held, wished)
    if pair is not None:
        first, last = pair
        raise Barred(first, last, held[first][last], wished[first][last])


def odd_pins(ends, wished):
    """The pins at which two rows of numbers of ends differ by an odd number."""
    return tuple([pin for pin, many in enumerate(ends) if (many - wished[pin]) % 2 == 1])
