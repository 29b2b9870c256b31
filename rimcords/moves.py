"""Moves: two cords that meet are laid apart, and the lot gets a lower table."""

from rimcords.counts import by_pair, cord_grid, entries_of, sums_before
from rimcords.errors import NoMove
from rimcords.kinds import is_below, is_sequence
from rimcords.lots import Lot
from rimcords.rims import crosses, gaps


def moves(lot):
    """Yields each allowed move once, in its smallest writing, in ascending order."""
    held = by_pair(lot.cords)
    near = [[q for q in range(lot.pins) if pair_of(p, q) in held] for p in range(lot.pins)]
    for a in range(lot.pins):
        for b in near[a]:
            for c in thirds(lot.pins, a, b):
                for d in near[c]:
                    if is_next(a, b, c, d) and (d != a or held[pair_of(a, b)] > 1):
                        yield (a, b, c, d)


def thirds(pins, a, b):
    """The pins that may stand third in a smallest writing which begins with a and b."""
    # Crossing cords are written from the smallest of their pins on, so with a > b the pin b must be common.
    if a > b:
        return [b]
    return list(range(a + 1, pins))


def is_next(a, b, c, d):
    """Whether a second cord from c to d makes a smallest writing with a first one from a to b."""
    if c == b:
        return d >= a
    return a < d < b if c > b else d > b


def pair_of(one, other):
    return (min(one, other), max(one, other))


def is_allowed(pins, held, move):
    """Whether this is a move, and is allowed where these numbers of cords run between the pairs of pins."""
    if not is_sequence(move) or len(move) != 4:
        return False
    a, b, c, d = move
    if not (is_below(a, pins) and is_below(b, pins) and is_below(c, pins) and is_below(d, pins)):
        return False
    if a == b or c == d or not (b == c or crosses(a, b, c, d)):
        return False
    one = pair_of(a, b)
    other = pair_of(c, d)
    least = 2 if one == other else 1
    return held.get(one, 0) >= least and held.get(other, 0) >= least


def is_move(lot, move):
    """Whether this is a move that is allowed in the lot."""
    return is_allowed(lot.pins, by_pair(lot.cords), move)


def do_move(held, move):
    """Changes the numbers of cords as an allowed move tells."""
    a, b, c, d = move
    for taken in (pair_of(a, b), pair_of(c, d)):
        held[taken] -= 1
    for one, other in ((a, d), (b, c)):
        if one != other:
            held[pair_of(one, other)] = held.get(pair_of(one, other), 0) + 1


def moved(lot, move):
    """The lot after the move."""
    return run(lot, (move,))


def lowered(pins, move):
    """The pairs of gaps between which two cords fewer pass after the move."""
    a, b, c, d = move
    pairs = [(i, j) for i in range(gaps(pins)) for j in range(i + 1, gaps(pins))]
    return tuple([
        (i, j) for i, j in pairs
        if is_between(a, b, i, j) and is_between(c, d, i, j)
        and not is_between(a, d, i, j) and not is_between(b, c, i, j)
    ])


def is_between(one, other, i, j):
    """Whether a cord between two pins passes between the gaps i < j; the same as parts, but without the arc."""
    return (i < one <= j) != (i < other <= j)


def run(lot, course):
    """The lot after a sequence of moves."""
    held = by_pair(lot.cords)
    for move in course:
        if not is_allowed(lot.pins, held, move):
            raise NoMove(move)
        do_move(held, move)
    return Lot(lot.pins, entries_of(held))


def is_run(lot, course, goal):
    """Whether all moves of the sequence are allowed in their turn and lead to the goal."""
    held = by_pair(lot.cords)
    for move in course:
        if not is_allowed(lot.pins, held, move):
            return False
        do_move(held, move)
    return Lot(lot.pins, entries_of(held)) == goal


def crossings(lot):
    """The number of pairs of single cords that cross."""
    grid = cord_grid(lot.pins, lot.cords)
    sums = [sums_before(row) for row in grid]
    total = 0
    for b in range(lot.pins):
        # Each cord from a < b to b crosses those that lead from between a and b to a pin behind b.
        across = 0
        for a in range(b - 1, -1, -1):
            total += grid[a][b] * across
            across += sums[a][lot.pins] - sums[a][b + 1]
    return total


def bare(lot):
    """Whether no move is allowed in the lot."""
    for _ in moves(lot):
        return False
    return True
