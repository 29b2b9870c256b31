"""The boards that rows of strands draw.

The strands are followed from spot to spot. A spot is a pin, one of the four places in the turn of a crossing, or one of
the two sides of a cup. The spots are numbered in this order, and each one gets a link to the spot to which a strand
leads from it without a cup in between.
"""

from rimcords.boards import joined_board


def board_of(row):
    """The board that a row draws, without what is not joined to a pin."""
    pins = row.top + row.bottom
    links = links_of(row)
    first_cup = pins + 4 * row.crossings()
    names = {}
    for spot in range(first_cup):
        if spot not in names:
            names[spot] = len(names)
            names[far_spot(links, spot, first_cup)] = len(names)
    turns = [(names[pin],) for pin in range(pins)]
    for joint in range(pins, first_cup, 4):
        turns.append(tuple([names[joint + place] for place in range(4)]))
    return joined_board(pins, tuple(turns), (1,) * (len(names) // 2))


def links_of(row):
    """For each spot of the row the one to which a strand leads from it."""
    links = {}
    lower = list(range(row.top))
    joint = row.top + row.bottom
    cup = joint + 4 * row.crossings()
    for word, lane in row.letters:
        if word == "cross":
            # Clockwise, the places are the upper left, the upper right, the lower right and the lower left one.
            link(links, lower[lane], joint)
            link(links, lower[lane + 1], joint + 1)
            lower[lane:lane + 2] = [joint + 3, joint + 2]
            joint += 4
        elif word == "cup":
            lower[lane:lane] = [cup, cup + 1]
            cup += 2
        else:
            link(links, lower[lane], lower[lane + 1])
            del lower[lane:lane + 2]
    for lane, spot in enumerate(lower):
        link(links, spot, row.top + row.bottom - 1 - lane)
    return links


def link(links, one, other):
    links[one] = other
    links[other] = one


def far_spot(links, spot, first_cup):
    """The pin or the place at a crossing to which a strand leads from another one, over all cups on its way."""
    reached = links[spot]
    while reached >= first_cup:
        other_side = first_cup + ((reached - first_cup) ^ 1)
        reached = links[other_side]
    return reached
