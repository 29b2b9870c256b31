"""Reaching a lot from another one by moves."""

from rimcords.counts import check_bar, cord_grid
from rimcords.errors import OddEnds
from rimcords.kinds import check_like
from rimcords.tables import odd, table_of


def reach(lot, wishes):
    """A sequence of moves that leads from the lot to the wishes."""
    check_like(lot.pins, wishes.pins)
    pins = odd(lot, wishes)
    if pins:
        raise OddEnds(pins)
    check_bar(lot.pins, table_of(lot), table_of(wishes))
    descent = Descent(lot, wishes)
    while descent.fresh:
        descent.use_up(descent.fresh.pop())
    return tuple(descent.steps)


class Descent:
    """A lot on its way down to the wishes.

    A move takes two cords that the wishes do not share, and lowers a rectangle of places of the table. As soon as one
    of these places is as low as the wishes need it, the move is out of the question for good. So two cords that have
    been looked at need not be looked at again before there is one more of either.
    """

    def __init__(self, lot, wishes):
        self.pins = lot.pins
        self.spare = differences(cord_grid(lot.pins, lot.cords), cord_grid(lot.pins, wishes.cords))
        self.slack = differences(table_of(lot), table_of(wishes))
        # Bit j of number i tells that the gaps i and j are as low as they may be.
        self.tight = [sum([1 << j for j, left in enumerate(row) if left == 0]) for row in self.slack]
        self.fresh = [(a, b) for a, b, _ in lot.cords if self.spare[a][b] > 0]
        self.steps = []

    def use_up(self, pair):
        """Does moves with the spare cords between two pins until there is none left, of the cords or of the moves."""
        a, b = pair
        going = True
        while going and self.spare[a][b] > 0:
            going = self.lay_apart(a, b, 1) or self.lay_apart(b, a, -1)

    def lay_apart(self, first, last, turn):
        """Does the widest move that takes a cord from `first` to `last` and one from c to d, if there is one.

        Here c comes behind `first` on the way round to `last`, and d behind `last` on the way on to `first`, where
        `turn` is 1 to go clockwise and -1 to go the other way. The move gives cords from `first` to d and from `last`
        to c, and lowers the places of the gaps passed up to c with the gaps passed up to d.
        """
        ways = passages(self.pins, first, last, turn)
        others = passages(self.pins, last, first, turn)
        found = self.widest(ways, others)
        if found is None:
            return False
        many, far = found
        c = ways[many - 1][1]
        d = others[far - 1][1]
        # With a common pin, the move is written with this pin second and third.
        move = (last, first, first, c) if d == first and c != last else (first, last, c, d)
        rows = [gap for gap, _ in ways[:many]]
        columns = [gap for gap, _ in others[:far]]
        self.repeat(move, rows, columns)
        return True

    def widest(self, ways, others):
        """How far c and d are along the two ways, in the move that lowers the most places; None if there is none."""
        best = None
        blocked = 0
        for many, (gap, c) in enumerate(ways, start=1):
            blocked |= self.tight[gap]
            for far, (column, d) in enumerate(others, start=1):
                if blocked >> column & 1:
                    break
                same = many == len(ways) and far == len(others)
                if self.spare[c][d] > (1 if same else 0) and (best is None or many * far > best[0] * best[1]):
                    best = (many, far)
        return best

    def repeat(self, move, rows, columns):
        """Does the move as often as the cords and the lowered places allow."""
        a, b, c, d = move
        times = min([self.slack[i][j] // 2 for i in rows for j in columns])
        if (a, b) in ((c, d), (d, c)):
            times = min(times, self.spare[a][b] // 2)
        else:
            times = min(times, self.spare[a][b], self.spare[c][d])
        self.change(a, b, -times)
        self.change(c, d, -times)
        self.change(a, d, times)
        self.change(b, c, times)
        for i in rows:
            for j in columns:
                self.sink(i, j, 2 * times)
                self.sink(j, i, 2 * times)
        self.steps.extend([move] * times)

    def change(self, one, other, many):
        """Changes the number of cords between two pins; a cord from a pin to itself is nothing."""
        if one == other:
            return
        self.spare[one][other] += many
        self.spare[other][one] += many
        if many > 0:
            self.fresh.append((one, other))

    def sink(self, i, j, by):
        self.slack[i][j] -= by
        if self.slack[i][j] == 0:
            self.tight[i] |= 1 << j


def differences(rows, others):
    return [[number - others[i][j] for j, number in enumerate(row)] for i, row in enumerate(rows)]


def passages(pins, first, last, turn):
    """Going round from one pin to another one: each gap that is passed, with the pin reached behind it."""
    found = []
    pin = first
    while pin != last:
        behind = (pin + turn) % pins
        found.append((pin if turn == 1 else behind, behind))
        pin = behind
    return found
