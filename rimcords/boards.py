"""Boards: tracks of whole widths that join pins on a rim and joints inside it without crossing."""

from rimcords.drawings import check_joined, check_parts, check_plane, form_of, joints_of_ends, lands_of
from rimcords.drawings import without_loose, without_tracks
from rimcords.errors import BadItem, BadJoint, BadTrack, OddPin
from rimcords.kinds import check_gap, check_number, check_pin, is_below, is_whole, next_pin, place_behind


class Board:
    """A board; it never changes."""

    def __init__(self, pins, turns, widths):
        check_parts(pins, turns, widths)
        self.pins = pins
        self.turns = tuple([tuple(turn) for turn in turns])
        self.widths = tuple(widths)
        self._joints = joints_of_ends(self.turns, 2 * len(self.widths))
        check_joined(pins, self.turns, self._joints)
        self._lands = lands_of(pins, self.turns, 2 * len(self.widths))
        check_plane(pins, len(self.turns), len(self.widths), len(self._lands))
        self._land_numbers = {item: number for number, land in enumerate(self._lands) for item in land}

    @property
    def lands(self):
        """The lands, each as the tuple of its items."""
        return self._lands

    @property
    def form(self):
        """Pins, turns and widths, which are the same just for boards with the same drawing."""
        return form_of(self.pins, self.turns, self.widths, self._joints)

    def __eq__(self, other):
        return isinstance(other, Board) and self.form == other.form

    def land_at(self, item):
        """The number of the land of an end, or of a gap i written as -1 - i."""
        if not is_whole(item) or item not in self._land_numbers:
            raise BadItem(item)
        return self._land_numbers[item]

    def joint_of(self, end):
        """The joint of an end."""
        if not is_below(end, len(self._joints)):
            raise BadItem(end)
        return self._joints[end]

    def ends(self, joint):
        """The sum of the widths of the ends at a joint."""
        if not is_below(joint, len(self.turns)):
            raise BadJoint(joint)
        return sum([self.widths[end // 2] for end in self.turns[joint]])

    def odd_joints(self):
        """The inner joints with an odd number of ends."""
        return tuple([joint for joint in range(self.pins, len(self.turns)) if self.ends(joint) % 2 == 1])

    def __mul__(self, number):
        check_number(number, 1)
        return Board(self.pins, self.turns, [width * number for width in self.widths])

    def widened(self, track, by):
        """The board with another width of a track."""
        check_track(len(self.widths), track)
        # Whether the new width is great enough is found out where the board is made.
        widths = self.widths[:track] + (self.widths[track] + by,) + self.widths[track + 1:]
        return Board(self.pins, self.turns, widths)

    def cut(self, track):
        """The board without a track, and without what only this track joined to a pin."""
        check_track(len(self.widths), track)
        kept = [other != track for other in range(len(self.widths))]
        turns, widths = without_tracks(self.turns, self.widths, kept)
        return joined_board(self.pins, turns, widths)

    def opened(self, gap):
        """A new pin with an empty turn stands in the gap."""
        check_gap(self.pins, gap)
        return self.beside(Board(1, ((),), ()), gap=gap)

    def linked(self, gap, many=1):
        """A new track runs along the gap."""
        behind = next_pin(self.pins, gap)
        check_number(many, 1)
        turns = list(self.turns)
        turns[gap] = (2 * len(self.widths),) + turns[gap]
        turns[behind] = turns[behind] + (2 * len(self.widths) + 1,)
        return Board(self.pins, turns, self.widths + (many,))

    def merged(self, gap):
        """The two pins at the ends of the gap are one pin."""
        behind = next_pin(self.pins, gap)
        turns = list(self.turns)
        turns[min(gap, behind)] = self.turns[behind] + self.turns[gap]
        del turns[max(gap, behind)]
        return Board(self.pins - 1, turns, self.widths)

    def dropped(self, pin):
        """The pin becomes the last inner joint, or vanishes if no other pin is joined to it."""
        check_pin(self.pins, pin)
        if self.ends(pin) % 2 == 1:
            raise OddPin(pin)
        turns = self.turns[:pin] + self.turns[pin + 1:] + (self.turns[pin],)
        return joined_board(self.pins - 1, turns, self.widths)

    def beside(self, other, *, gap=None):
        """The pins of another board stand in the gap, with what is joined to them."""
        first = place_behind(self.pins, gap)
        shift = 2 * len(self.widths)
        new = tuple([tuple([end + shift for end in turn]) for turn in other.turns])
        pins = self.turns[:first] + new[:other.pins] + self.turns[first:self.pins]
        inner = self.turns[self.pins:] + new[other.pins:]
        return Board(self.pins + other.pins, pins + inner, self.widths + other.widths)

    def turned(self, steps):
        """Pin p becomes pin p + steps, round the rim."""
        if self.pins == 0:
            return self
        first = -steps % self.pins
        pins = self.turns[first:self.pins] + self.turns[:first]
        return Board(self.pins, pins + self.turns[self.pins:], self.widths)

    def mirrored(self):
        """The pins are numbered, and all turns are read, the other way round."""
        turns = [turn[::-1] for turn in self.turns]
        return Board(self.pins, turns[:self.pins][::-1] + turns[self.pins:], self.widths)


def check_track(tracks, track):
    if not is_below(track, tracks):
        raise BadTrack(track)


def joined_board(pins, turns, widths):
    """The board with these pins, turns and widths, without the joints that tracks do not join to a pin."""
    left, kept = without_loose(pins, turns, widths)
    return Board(pins, left, kept)
