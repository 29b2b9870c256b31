"""What lies round a hole, as far as fences are concerned: deeds are done round a part that is not known yet."""

from rimcords.lots import table_without
from rimcords.rims import gaps


class Surroundings:
    """The least costs of ways round a hole, between all gaps of the rim and all gaps of the hole.

    The rows of the costs are those of the gaps of the rim, and behind them those of the gaps of the hole; the columns
    likewise. Ways across the hole do not count here. Deeds change the costs as they change the table of a lot, so a
    course can be done on surroundings. Whether a deed is possible is not checked.
    """

    def __init__(self, pins, costs):
        self.pins = pins
        self.costs = costs

    def reordered(self, pins, order):
        """Surroundings with so many pins, whose gaps are these old ones."""
        places = list(order) + list(range(gaps(self.pins), len(self.costs)))
        return Surroundings(pins, [[self.costs[i][j] for j in places] for i in places])

    def opened(self, gap):
        # On both sides of the new pin there is what was in the gap.
        return self.reordered(self.pins + 1, list(range(gap + 1)) + list(range(gap, self.pins)))

    def linked(self, gap, many):
        costs = [
            [cost + many if (i == gap) != (j == gap) else cost for j, cost in enumerate(row)]
            for i, row in enumerate(self.costs)
        ]
        return Surroundings(self.pins, costs)

    def merged(self, gap):
        return self.reordered(self.pins - 1, [place for place in range(self.pins) if place != gap])

    def dropped(self, pin):
        if self.pins == 1:
            return Surroundings(0, self.costs)
        return Surroundings(self.pins - 1, table_without(self.pins, self.costs, pin))

    def turned(self, steps):
        if self.pins == 0:
            return self
        return self.reordered(self.pins, [(gap - steps) % self.pins for gap in range(self.pins)])

    def mirrored(self):
        if self.pins == 0:
            return self
        return self.reordered(self.pins, [(-2 - gap) % self.pins for gap in range(self.pins)])


def hole_alone(pins, far):
    """A hole on so many pins, with nothing round it; `far` is the cost where no way leads."""
    size = gaps(pins)
    return Surroundings(pins, [[0 if (i - j) % size == 0 else far for j in range(2 * size)] for i in range(2 * size)])
