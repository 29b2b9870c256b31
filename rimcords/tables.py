"""Tables of lots: how many cords pass between each two gaps."""

from rimcords.counts import cords_of_table, ends_at_pins, first_bar, odd_pins, table_rows, twice_between
from rimcords.errors import BadTable, NoLot
from rimcords.kinds import check_like, check_pins, is_sequence, is_whole
from rimcords.lots import Lot
from rimcords.rims import gaps


def table_of(lot):
    """The table of a lot."""
    return table_rows(lot.pins, lot.cords)


def lot_of(pins, table):
    """The lot with the given table."""
    check_pins(pins)
    check_table(gaps(pins), table)
    for a in range(pins):
        for b in range(a + 1, pins):
            twice = twice_between(pins, table, a, b)
            if twice < 0 or twice % 2 == 1:
                raise NoLot(a, b, twice)
    return Lot(pins, cords_of_table(pins, table))


def check_table(size, table):
    """Finds the first place, row by row, that breaks the form of a table with so many rows and columns."""
    rows = table if is_sequence(table) else ()
    for row in range(size):
        if row >= len(rows) or not is_sequence(rows[row]):
            raise BadTable(row, 0)
        for column in range(size):
            if not is_place_right(rows, row, column):
                raise BadTable(row, column)
        if len(rows[row]) > size:
            raise BadTable(row, size)
    if len(rows) > size:
        raise BadTable(size, 0)


def is_place_right(rows, row, column):
    """Whether the place holds what it must, if the rows above hold what they must."""
    if column >= len(rows[row]):
        return False
    number = rows[row][column]
    if not is_whole(number) or number < 0:
        return False
    if column < row:
        return number == rows[column][row]
    return column > row or number == 0


def bar(lot, wishes):
    """The first pair of gaps between which more wishes pass than cords of the lot, or None."""
    check_like(lot.pins, wishes.pins)
    return first_bar(lot.pins, table_of(lot), table_of(wishes))


def odd(lot, wishes):
    """The pins at which the numbers of ends of two lots differ by an odd number."""
    check_like(lot.pins, wishes.pins)
    return odd_pins(ends_at_pins(lot.pins, lot.cords), ends_at_pins(wishes.pins, wishes.cords))
