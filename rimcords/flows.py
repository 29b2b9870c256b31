"""Flows: as much as possible is sent from some places to others, each of which has or takes only so much."""


def flow_between(stock, wants, free):
    """What is sent, as entries (a, b, n), when as much as possible of the stock goes to places that want it.

    `stock` tells how much each place on the one side has, `wants` how much each place on the other side takes, and
    `free` to which places of the other side each place may send.
    """
    flow = Flow(stock, wants, free)
    flow.send_straight()
    while flow.send_round():
        pass
    return [(a, b, many) for b in wants for a, many in flow.sent[b].items() if many > 0]


class Flow:
    """What is sent so far: `sent[b][a]` is what b gets from a; `stock` and `wants` tell what is left."""

    def __init__(self, stock, wants, free):
        self.stock = dict(stock)
        self.wants = dict(wants)
        self.free = free
        self.sent = {b: {} for b in wants}

    def send_straight(self):
        """Sends what can be sent without taking anything back."""
        for a in self.free:
            for b in self.free[a]:
                self.send_along([(a, b)])

    def send_round(self):
        """Sends more on a shortest way on which some places take back what they have sent; tells if there was one."""
        givers = {}
        takers = {a: None for a in self.stock if self.stock[a] > 0}
        layer = list(takers)
        while layer:
            reached = []
            for a in layer:
                for b in self.free[a]:
                    if b not in givers:
                        givers[b] = a
                        reached.append(b)
            for b in reached:
                if self.wants[b] > 0:
                    self.send_along(way_to(b, givers, takers))
                    return True
            layer = self.next_layer(reached, takers)
        return False

    def next_layer(self, reached, takers):
        """The places that have not been met yet and can take something back from those that are reached."""
        layer = []
        for b in reached:
            for a, many in self.sent[b].items():
                if many > 0 and a not in takers:
                    takers[a] = b
                    layer.append(a)
        return layer

    def send_along(self, way):
        """Sends as much as possible along a way, on which each place but the first one takes back what it sends."""
        first = way[0][0]
        last = way[-1][1]
        backward = [(behind[0], ahead[1]) for ahead, behind in zip(way, way[1:])]
        many = min([self.stock[first], self.wants[last]] + [self.sent[b][a] for a, b in backward])
        for a, b in way:
            self.sent[b][a] = self.sent[b].get(a, 0) + many
        for a, b in backward:
            self.sent[b][a] -= many
        self.stock[first] -= many
        self.wants[last] -= many


def way_to(last, givers, takers):
    """The pairs (a, b) in which something is sent on the way to the last place, from the first pair on."""
    way = []
    b = last
    while b is not None:
        a = givers[b]
        way.append((a, b))
        b = takers[a]
    return way[::-1]
