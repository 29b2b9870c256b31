"""The lot of cords that stands for a board."""

from rimcords.fences import cords_by_fences


def cords(board):
    """The lot of an even board, which every course leaves that builds the board."""
    # The fences tell it without any course, and faster.
    return cords_by_fences(board)
