"""Notes of lots."""

from rimcords.lots import Lot
from rimcords.notes import read_line, read_numbers, written


def format_lot(lot):
    """The lot as a text: a line with the number of pins, and a line for each entry of its cords."""
    return written([("lot", lot.pins)] + list(lot.cords))


def parse_lot(text):
    """The lot of a text."""
    lines = text.split("\n")
    _, pins = read_line(lines, 0, {"lot": 1})
    return Lot(pins, [read_numbers(lines, place, 3) for place in range(1, len(lines))])
