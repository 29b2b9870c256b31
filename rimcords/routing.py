"""Routes: wires for wishes that a board can carry, found by walks that always keep to the left.

Each track is taken apart into thin tracks of width 1 side by side. A dart is one way along a thin track, from the joint
where it stands: 2 * number for the one way and 2 * number + 1 for the other, so `dart ^ 1` is the way back. Each single
wish has two legs, which lead off the rim and are numbered behind the darts: an opening one at its first pin and, with
the next number, a closing one at its second pin.

Walks are taken in two rounds, as D. Wagner and K. Weihe found it for paths in the plane that share no edge. In the
first round the legs are read along the rim as opening and closing brackets: to each closing leg a walk leads from the
opening leg that matches it as a bracket. The walks give each thin track that they use a direction. In the second round
a walk leads to each closing leg from the opening leg of the same wish, only in these directions. Where the wishes can
be laid and no joint is odd, each walk arrives at the leg that it was meant for.
"""


def routed(board, wishes):
    """Wires for the wishes, which must fit the lot of the board and be as odd as the board at each pin."""
    ends = [2 * track + side for track, width in enumerate(board.widths) for _ in range(width) for side in (0, 1)]
    rows = legs_at_pins(wishes, len(ends))
    legs = [leg for row in rows for leg in row]
    turns = thin_turns(board, rows)
    closed = closed_ways(turns, legs, len(ends))
    walks = walks_of_wishes(turns, legs, len(ends), closed)
    return nested(wishes, [tuple([ends[dart] for dart in walk]) for walk in walks])


def legs_at_pins(wishes, first):
    """The legs at each pin in the order in which they stand on the rim; `first` is the number of the first leg."""
    opening = [[] for _ in range(wishes.pins)]
    closing = [[] for _ in range(wishes.pins)]
    leg = first
    for a, b, many in wishes.cords:
        behind = leg + 2 * many
        opening[a].extend(list(range(leg, behind, 2)))
        closing[b].extend(list(range(leg + 1, behind, 2)))
        leg = behind
    return [closing[pin] + opening[pin] for pin in range(wishes.pins)]


def is_opening(leg, first):
    return (leg - first) % 2 == 0


def thin_turns(board, rows):
    """The darts at each joint in clockwise order, and behind them the legs."""
    darts = []
    first = 0
    for width in board.widths:
        darts.append(list(range(first, first + 2 * width, 2)))
        # Thin tracks side by side come the other way round at their other ends.
        darts.append(list(range(first + 1, first + 2 * width, 2))[::-1])
        first += 2 * width
    turns = [[dart for end in turn for dart in darts[end]] for turn in board.turns]
    return [turn + rows[joint] if joint < board.pins else turn for joint, turn in enumerate(turns)]


def closed_ways(turns, legs, first):
    """The first round; for each dart and leg it tells whether it is closed because no walk went that way."""
    walks = Walks(turns, [False] * (first + len(legs)), first)
    closed = [True] * (first + len(legs))
    waiting = []
    for leg in legs:
        if is_opening(leg, first):
            waiting.append(leg)
        else:
            for dart in walks.walk(waiting.pop()):
                closed[dart] = False
    return closed


def walks_of_wishes(turns, legs, first, closed):
    """The second round; the darts of a walk for each wish, in the order of the wishes."""
    walks = Walks(turns, closed, first)
    found = {}
    for leg in legs:
        if not is_opening(leg, first):
            found[leg] = walks.walk(leg - 1)[:-1]
    return [found[leg] for leg in sorted(found)]


def nested(wishes, wires):
    """The wires for single wishes, put together for each entry of the wishes."""
    items = []
    first = 0
    for _, _, many in wishes.cords:
        items.append(tuple(wires[first:first + many]))
        first += many
    return tuple(items)


class Walks:
    """Walks that together use each thin track at most once; the turns of the joints shrink as it is used up."""

    def __init__(self, turns, closed, first):
        self.closed = closed
        self.first = first
        self.ahead = [0] * len(closed)
        self.behind = [0] * len(closed)
        for turn in turns:
            for place, dart in enumerate(turn):
                self.ahead[dart] = turn[place - 1]
                self.behind[turn[place - 1]] = dart

    def walk(self, leg):
        """The darts of a walk that comes in by this leg, and at its end the leg by which it leaves the board."""
        walked = [self.way_on(leg)]
        while walked[-1] < self.first:
            walked.append(self.way_on(walked[-1] ^ 1))
        return walked

    def way_on(self, back):
        """The sharpest turn to the left for a walk that came to a joint, where `back` would lead it back."""
        # Facing inward with `back` behind, the left hand points to what comes next clockwise.
        way = self.behind[back]
        while self.closed[way]:
            way = self.behind[way]
        self.use_up(back)
        self.use_up(way)
        return way

    def use_up(self, dart):
        """Takes a dart or a leg out of the turn of its joint."""
        ahead = self.ahead[dart]
        behind = self.behind[dart]
        self.behind[ahead] = behind
        self.ahead[behind] = ahead
