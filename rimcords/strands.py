"""What the strands of a row join, found letter by letter.

The upper ends of the strands are the first pins, from left to right, and the lower ends follow from right to left. A
list of mates tells for each pin the one at the other end of its cord.
"""

from rimcords.lots import Lot
from rimcords.rims import crosses


def pairing_of(top, lanes, letters):
    """The lot of the row that begins with `top` lanes, with so many lanes ahead of each of its letters."""
    mates = list(range(2 * top))[::-1]
    for many, (word, lane) in zip(lanes, letters):
        # The pin of the left one of the two lanes; that of the right one is the pin before it.
        left = top + many - 1 - lane
        if word == "cross":
            mates = mates_crossed(mates, left)
        elif word == "cup":
            mates = mates_begun(mates, left + 1)
        else:
            mates = mates_joined(mates, left - 1)
    return lot_of_mates(mates)


def lot_of_mates(mates):
    return Lot(len(mates), [(pin, mate, 1) for pin, mate in enumerate(mates) if pin < mate])


def mates_of_lot(lot):
    """The mates of the pins of a lot with exactly one cord end at each pin."""
    mates = [0] * lot.pins
    for a, b, _ in lot.cords:
        mates[a] = b
        mates[b] = a
    return mates


def mates_crossed(mates, left):
    """The mates when two strands cross at the lower ends `left - 1` and `left`, unless they have crossed already."""
    right = left - 1
    one = mates[left]
    other = mates[right]
    if one == right or crosses(left, one, right, other):
        return mates
    changed = list(mates)
    changed[left] = other
    changed[right] = one
    changed[one] = right
    changed[other] = left
    return changed


def mates_begun(mates, first):
    """The mates with two more pins, `first` and the next one, which are mates of one another."""
    moved = [mate + 2 if mate >= first else mate for mate in mates]
    return moved[:first] + [first + 1, first] + moved[first:]


def mates_joined(mates, right):
    """The mates when the strands at the lower ends `right` and `right + 1` are joined there."""
    # The joined cord may cross another one twice, so this takes more than to join the two mates.
    return mates_of_lot(lot_of_mates(mates).merged(right).dropped(right))
