"""Cheapest ways from place to place, where each step along or across a track costs its width.

The places are joints for ways along the tracks, and lands for ways across them. An end stands for the step from its own
place to the place of its other end.
"""

from heapq import heappop, heappush


def least_costs(places, homes, widths, start):
    """The least cost from the start to each place that can be reached, and the last step there (None at the start).

    `places` holds the items of each place, of which those below 0 are no ends, and `homes` the place of each end.
    """
    costs = {start: 0}
    steps = {start: None}
    done = {}
    queue = [(0, start)]
    while queue:
        cost, place = heappop(queue)
        if place not in done:
            done[place] = True
            for end in places[place]:
                if end >= 0:
                    reached = homes[end ^ 1]
                    price = cost + widths[end // 2]
                    if reached not in costs or price < costs[reached]:
                        costs[reached] = price
                        steps[reached] = end
                        heappush(queue, (price, reached))
    return costs, steps


def steps_to(steps, homes, place):
    """All steps from the start to a place, where `steps` tells the last step to each place."""
    found = []
    step = steps[place]
    while step is not None:
        found.append(step)
        step = steps[homes[step]]
    return tuple(found[::-1])
