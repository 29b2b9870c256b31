"""Notes of rows."""

from rimcords.notes import read_line, written
from rimcords.rows import CHANGES, Row


def format_row(row):
    """The row as a text: a line with the number of top lanes, and a line for each letter."""
    return written([("row", row.top)] + list(row.letters))


def parse_row(text):
    """The row of a text."""
    lines = text.split("\n")
    _, top = read_line(lines, 0, {"row": 1})
    counts = {word: 1 for word in CHANGES}
    return Row(top, [read_line(lines, place, counts) for place in range(1, len(lines))])
