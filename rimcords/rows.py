"""Rows of strands, read letter by letter from top to bottom."""

from rimcords.errors import BadLanes, BadLetter, UnlikeLanes
from rimcords.kinds import check_number, is_below, is_sequence, is_whole
from rimcords.strands import pairing_of

# How many lanes there are more behind a letter.
CHANGES = {"cross": 0, "cup": 2, "cap": -2}
UPSIDE_DOWN = {"cross": "cross", "cup": "cap", "cap": "cup"}


class Row:
    """A row of strands; it never changes."""

    def __init__(self, top, letters=()):
        if not is_whole(top) or top < 0:
            raise BadLanes(top)
        self.top = top
        self._lanes = lanes_along(top, letters)
        self.letters = tuple([tuple(letter) for letter in letters])

    @property
    def lanes(self):
        """The numbers of lanes ahead of each letter and at the end."""
        return self._lanes

    @property
    def bottom(self):
        """The number of lanes at the end."""
        return self._lanes[-1]

    @property
    def pairing(self):
        """The lot of the board that the row draws."""
        return pairing_of(self.top, self._lanes, self.letters)

    def __len__(self):
        return len(self.letters)

    def __eq__(self, other):
        return isinstance(other, Row) and self.top == other.top and self.letters == other.letters

    def __rshift__(self, other):
        check_lanes(self.bottom, other.top)
        return Row(self.top, self.letters + other.letters)

    def __pow__(self, number):
        check_lanes(self.bottom, self.top)
        check_number(number, 0)
        return Row(self.top, self.letters * number)

    def shifted(self, left, right):
        """The row with more lanes on both sides, which go straight down."""
        check_number(left, 0)
        check_number(right, 0)
        return Row(left + self.top + right, [(word, lane + left) for word, lane in self.letters])

    def flipped(self):
        """The row turned upside down."""
        return Row(self.bottom, [(UPSIDE_DOWN[word], lane) for word, lane in self.letters[::-1]])

    def crossings(self):
        """The number of letters that cross two strands."""
        return len([word for word, _ in self.letters if word == "cross"])


def lanes_along(top, letters):
    """The numbers of lanes ahead of each letter and at the end, if each letter can stand at its place."""
    lanes = [top]
    for place, letter in enumerate(letters):
        if not is_letter(letter, lanes[-1]):
            raise BadLetter(place, letter)
        lanes.append(lanes[-1] + CHANGES[letter[0]])
    return tuple(lanes)


def is_letter(letter, lanes):
    """Whether this is a letter that can stand where there are so many lanes."""
    if not is_sequence(letter) or len(letter) != 2 or not isinstance(letter[0], str) or letter[0] not in CHANGES:
        return False
    return is_below(letter[1], lanes + 1 if letter[0] == "cup" else lanes - 1)


def check_lanes(one, other):
    if one != other:
        raise UnlikeLanes(one, other)
