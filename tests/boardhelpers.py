"""Boards that the tests share."""

import random

from rimcords.boards import Board
from rimcords.courses import Course
from rimcords.errors import Refused
from rimcords.lots import Lot

EMPTY = Board(0, (), ())
STAR = Board(4, ((0,), (2,), (4,), (6,), (1, 3, 5, 7)), (1, 1, 1, 1))


def random_course(rng, length, pins, widths=3):
    """A course that can be done on the empty lot and on the empty board, with at most so many pins on its way."""
    lot = Lot(0)
    deeds = []
    while len(deeds) < length:
        gap = rng.randrange(max(lot.pins, 1))
        deed = rng.choice([
            ("pin", gap), ("pin", gap), ("track", gap, rng.randint(1, widths)), ("track", gap, rng.randint(1, widths)),
            ("merge", gap), ("merge", gap), ("drop", gap), ("turn", rng.randint(-9, 9)), ("mirror",),
        ])
        if deed[0] == "pin" and lot.pins >= pins or deed[0] in ("merge", "drop") and lot.pins <= pins // 2:
            continue
        try:
            lot = Course([deed])(lot)
        except Refused:
            continue
        deeds.append(deed)
    return Course(deeds)


def random_board(rng, length, pins, even=True):
    board = random_course(rng, length, pins)(EMPTY)
    if not even:
        for track in range(len(board.widths)):
            board = board.widened(track, rng.randint(0, 1))
    return board


def random_boards(seed, many, pins=6, length=30, even=True):
    rng = random.Random(seed)
    return [random_board(rng, rng.randint(0, length), rng.randint(1, pins), even) for _ in range(many)]


def renumbered(rng, board):
    """Another board with the same drawing."""
    tracks = list(range(len(board.widths)))
    rng.shuffle(tracks)
    swaps = [rng.randint(0, 1) for _ in tracks]
    widths = [0] * len(tracks)
    for track, name in enumerate(tracks):
        widths[name] = board.widths[track]
    turns = [[2 * tracks[end // 2] + ((end & 1) ^ swaps[end // 2]) for end in turn] for turn in board.turns]
    inner = turns[board.pins:]
    for place, turn in enumerate(inner):
        first = rng.randrange(len(turn))
        inner[place] = turn[first:] + turn[:first]
    rng.shuffle(inner)
    return Board(board.pins, turns[:board.pins] + inner, widths)


def fields_of(board):
    return (board.pins, board.turns, board.widths)
