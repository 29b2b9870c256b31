"""Rows that the tests share, and the boards that they draw."""

from rimcords.boards import Board
from rimcords.drawings import without_loose
from rimcords.rows import Row

CHANGES = {"cross": 0, "cup": 2, "cap": -2}


def random_row(rng, top, length, most=8, words=("cross", "cross", "cup", "cap")):
    """A row with so many letters at the most, and at most so many lanes."""
    lanes = top
    letters = []
    for _ in range(length):
        word = rng.choice(words)
        if word == "cup" and lanes + 2 <= most:
            letters.append((word, rng.randint(0, lanes)))
        elif word != "cup" and lanes >= 2:
            letters.append((word, rng.randint(0, lanes - 2)))
        else:
            continue
        lanes += CHANGES[word]
    return Row(top, letters)


def square_row(rng, top, length, most=8):
    """A row with as many lanes at the bottom as at the top."""
    row = random_row(rng, top, length, most)
    letters = list(row.letters)
    lanes = row.bottom
    while lanes > top:
        lanes -= 2
        letters.append(("cap", rng.randint(0, lanes)))
    while lanes < top:
        letters.append(("cup", rng.randint(0, lanes)))
        lanes += 2
    return Row(top, letters)


def plain_board(row):
    """The board that a row draws, put together from the pieces of strands between pins and crossings.

    An open lower end is the place where a piece begins: ("pin", number), ("joint", number, place in its turn), or
    ("cup", number, side) until the piece is joined to another one.
    """
    lanes = [("top", lane) for lane in range(row.top)]
    links = {}
    joints = cups = 0
    for word, lane in row.letters:
        if word == "cross":
            link(links, lanes[lane], ("joint", joints, 0))
            link(links, lanes[lane + 1], ("joint", joints, 1))
            lanes[lane:lane + 2] = [("joint", joints, 3), ("joint", joints, 2)]
            joints += 1
        elif word == "cup":
            lanes[lane:lane] = [("cup", cups, 0), ("cup", cups, 1)]
            cups += 1
        else:
            link(links, lanes[lane], lanes[lane + 1])
            del lanes[lane:lane + 2]
    for lane, end in enumerate(lanes):
        link(links, end, ("bottom", lane))
    pins = [("top", lane) for lane in range(row.top)] + [("bottom", lane) for lane in range(len(lanes))][::-1]
    turns = [[pin] for pin in pins] + [[("joint", joint, place) for place in range(4)] for joint in range(joints)]
    ends = {}
    for place in [place for turn in turns for place in turn]:
        if place not in ends:
            ends[place] = len(ends)
            ends[far_end(links, place)] = len(ends)
    widths = [1] * (len(ends) // 2)
    return Board(len(pins), *without_loose(len(pins), [tuple(ends[place] for place in turn) for turn in turns], widths))


def link(links, one, other):
    links.setdefault(one, []).append(other)
    links.setdefault(other, []).append(one)


def far_end(links, start):
    """The pin or the place at a joint at the other end of a strand, over all cups on its way."""
    at = links[start][0]
    while at[0] == "cup":
        _, cup, side = at
        at = links[("cup", cup, 1 - side)][0]
    return at
