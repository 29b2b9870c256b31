"""Courses that build boards: a board is taken down to the empty one, and the course goes the same way back."""

from rimcords.courses import Course
from rimcords.drawings import begun_with
from rimcords.fences import check_even


def course_of(board):
    """A course that builds an even board out of the empty board."""
    check_even(board)
    takedown = Takedown(board)
    while takedown.rim:
        takedown.step()
    return Course(takedown.deeds[::-1])


class Takedown:
    """A board that is being taken down; `deeds` holds what builds it up again, the last deed first.

    Joints keep their numbers while they move between the rim and the inside; a pin that is parted in two gets a new
    number for one of its parts.
    """

    def __init__(self, board):
        self.rim = list(range(board.pins))
        self.turns = {joint: list(turn) for joint, turn in enumerate(board.turns)}
        self.homes = {end: joint for joint, turn in enumerate(board.turns) for end in turn}
        self.inner = {joint: True for joint in range(board.pins, len(board.turns))}
        self.widths = board.widths
        self.deeds = []

    def step(self):
        """Takes one deed back, if there is a choice one that leaves less on the rim."""
        places = range(len(self.rim))
        bare = [place for place in places if not self.turn_at(place)]
        outer = [place for place in places if self.is_outer(place)]
        if bare:
            # The last one, since pin 0 can only be put back by a turn of the rim.
            self.take_pin(bare[-1])
        elif outer:
            self.take_track(outer[0])
        else:
            near = [(len(self.turn_at(place)), place) for place in places if self.inner_ends(place)]
            if near:
                # A pin with few ends is soon off the rim.
                _, place = min(near)
                self.pull(place, self.inner_ends(place)[0])
            else:
                self.part()

    def turn_at(self, place):
        return self.turns[self.rim[place]]

    def next_place(self, place):
        """The next place clockwise on the rim."""
        return (place + 1) % len(self.rim)

    def is_outer(self, place):
        """Whether a track runs along the gap from this pin to the next one, with nothing between it and the gap."""
        if len(self.rim) < 2:
            return False
        own = self.turn_at(place)
        others = self.turn_at(self.next_place(place))
        return len(own) > 0 and len(others) > 0 and own[0] ^ 1 == others[-1]

    def inner_ends(self, place):
        """The ends beside the gaps at this pin whose tracks lead to inner joints."""
        turn = self.turn_at(place)
        return [end for end in turn[:1] + turn[-1:] if self.homes[end ^ 1] in self.inner]

    def take_pin(self, place):
        del self.rim[place]
        if place > 0:
            self.deeds.append(("pin", place - 1))
        elif not self.rim:
            self.deeds.append(("pin", 0))
        else:
            self.deeds.append(("turn", 1))
            self.deeds.append(("pin", len(self.rim) - 1))

    def take_track(self, place):
        end = self.turn_at(place).pop(0)
        self.turn_at(self.next_place(place)).pop()
        self.deeds.append(("track", place, self.widths[end // 2]))

    def pull(self, place, end):
        """Makes the inner joint to which an end beside a gap leads a pin in this gap."""
        joint = self.homes[end ^ 1]
        turn = begun_with(self.turns[joint], end ^ 1)
        if self.turn_at(place)[0] == end:
            self.turns[joint] = turn[1:] + turn[:1]
            at = place + 1
        else:
            self.turns[joint] = turn
            at = place
        self.rim.insert(at, joint)
        del self.inner[joint]
        self.deeds.append(("drop", at))

    def part(self):
        """Parts a pin in two between the ends of a track that leads from this pin to itself.

        This is due only where no other deed can be taken back. Then there is such a track: else a first end that leads
        as few pins on as possible would run along a gap, or what keeps it from the gap could be pulled.
        """
        loops = [(place, self.first_loop(place)) for place in range(len(self.rim))]
        place, many = [loop for loop in loops if loop[1] > 0][0]
        turn = self.turn_at(place)
        joint = len(self.turns)
        self.turns[joint] = turn[:many]
        self.turns[self.rim[place]] = turn[many:]
        for end in turn[:many]:
            self.homes[end] = joint
        self.rim.insert(place + 1, joint)
        self.deeds.append(("merge", place))

    def first_loop(self, place):
        """How many ends stand up to the first end of an innermost track from the pin to itself; 0 if there is none."""
        turn = self.turn_at(place)
        for at, end in enumerate(turn):
            if end ^ 1 in turn[:at]:
                return turn.index(end ^ 1) + 1
        return 0
