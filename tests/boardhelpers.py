"""Boards that the tests share."""

import random

from rimcords.boards import Board
from rimcords.courses import Course
from rimcords.errors import Refused
from rimcords.lots import Lot

EMPTY = Board(0, (), ())
STAR = Board(4, ((0,), (2,), (4,), (6,), (1, 3, 5, 7)), (1, 1, 1, 1))


def random_course(rng, length, pins, widths=3):
    """A course that can be done on the empty lot and on the empty board, with at most so many pins on its way."""
    lot = Lot(0)
    deeds = []
    while len(deeds) < length:
        gap = rng.randrange(max(lot.pins, 1))
        deed = rng.choice([
            ("pin", gap), ("pin", gap), ("track", gap, rng.randint(1, widths)), ("track", gap, rng.randint(1, widths)),
            ("merge", gap), ("merge", gap), ("drop", gap), ("turn", rng.randint(-9, 9)), ("mirror",),
        ])
        if deed[0] == "pin" and lot.pins >= pins or deed[0] in ("merge", "drop") and lot.pins <= pins // 2:
            continue
        try:
            lot = Course([deed])(lot)
        except Refused:
            continue
        deeds.append(deed)
    return Course(deeds)


def random_board(rng, length, pins, even=True):
    board = random_course(rng, length, pins)(EMPTY)
    if not even:
        for track in range(len(board.widths)):
            board = board.widened(track, rng.randint(0, 1))
    return board


def random_boards(seed, many, pins=6, length=30, even=True):
    rng = random.Random(seed)
    return [random_board(rng, rng.randint(0, length), rng.randint(1, pins), even) for _ in range(many)]


def renumbered(rng, board):
    """Another board with the same drawing."""
    tracks = list(range(len(board.widths)))
    rng.shuffle(tracks)
    swaps = [rng.randint(0, 1) for _ in tracks]
    widths = [0] * len(tracks)
    for track, name in enumerate(tracks):
        widths[name] = board.widths[track]
    turns = [[2 * tracks[end // 2] + ((end & 1) ^ swaps[end // 2]) for end in turn] for turn in board.turns]
    inner = turns[board.pins:]
    for place, turn in enumerate(inner):
        first = rng.randrange(len(turn))
        inner[place] = turn[first:] + turn[:first]
    rng.shuffle(inner)
    return Board(board.pins, turns[:board.pins] + inner, widths)


def fields_of(board):
    return (board.pins, board.turns, board.widths)


def ring_board(pins):
    """Tracks from each pin to the next one, and at each pin a joint that hangs between these and the gap."""
    turns = [(4 * pin, (4 * pin - 3) % (4 * pins), 4 * pin + 2) for pin in range(pins)]
    return Board(pins, turns + [(4 * pin + 3,) for pin in range(pins)], (1, 2) * pins)


def grid_board(rng, rows, columns, widths=3):
    """Inner joints in rows and columns, with tracks of odd widths along these, and a pin at each end of them."""
    side = rows + columns
    first = 2 * side
    # The places in the turn of an inner joint: 0 above, 1 to the right, 2 below, 3 to the left.
    lines = [(3, [first - 1 - row, *range(first + row * columns, first + row * columns + columns), columns + row])
             for row in range(rows)]
    lines += [(0, [column, *range(first + column, first + rows * columns, columns), first - 1 - rows - column])
              for column in range(columns)]
    turns = [{} for _ in range(first + rows * columns)]
    tracks = []
    for side, line in lines:
        for one, other in zip(line, line[1:]):
            turns[one][(side + 2) % 4] = 2 * len(tracks)
            turns[other][side] = 2 * len(tracks) + 1
            tracks.append(2 * rng.randrange(widths) + 1)
    return Board(first, [[turn[place] for place in sorted(turn)] for turn in turns], tracks)


# Edges of what a board can be: without pins, without tracks, loops at pins and at inner joints (also round other
# things), several tracks between two joints, parts that are not joined, and joints that hang at one track only.
SHAPES = (
    EMPTY,
    Board(1, ((),), ()),
    Board(3, ((), (), ()), ()),
    Board(1, ((0, 1),), (3,)),
    Board(1, ((0, 2, 3, 4, 5, 1),), (1, 2, 3)),
    Board(1, ((0, 2, 1), (3,)), (1, 2)),
    Board(1, ((0,), (1, 2, 3)), (2, 5)),
    Board(2, ((0,), (), (1, 2, 4, 5, 3)), (4, 1, 1)),
    Board(2, ((0,), (1,)), (5,)),
    Board(2, ((0, 2), (3, 1)), (1, 2)),
    Board(3, ((0, 2), (3, 4, 5, 1), ()), (1, 2, 3)),
    Board(4, ((0,), (2,), (3,), (1,)), (2, 3)),
    Board(5, ((0,), (), (2, 1), (), (3,)), (1, 1)),
    STAR,
    (STAR * 2).dropped(0),
    ring_board(2),
    ring_board(5),
)
