"""Notes of boards."""

from rimcords.boards import Board
from rimcords.notes import read_line, written


def format_board(board):
    """The board as a text: a line with the number of pins, one with the widths, and one for the turn of each joint."""
    return written([("board", board.pins), ("widths",) + board.widths] + [("turn",) + turn for turn in board.turns])


def parse_board(text):
    """The board of a text."""
    lines = text.split("\n")
    _, pins = read_line(lines, 0, {"board": 1})
    widths = read_line(lines, 1, {"widths": None})[1:]
    turns = [read_line(lines, place, {"turn": None})[1:] for place in range(2, len(lines))]
    return Board(pins, tuple(turns), widths)
