"""The desk: a board with wishes that can always be laid on it in halves, and deeds that can be taken back."""

from rimcords.counts import check_bar
from rimcords.errors import NothingToUndo, RimError, SamePin
from rimcords.fences import fence_table
from rimcords.kinds import check_number, check_pin
from rimcords.laying import lay_halves
from rimcords.lots import Lot
from rimcords.shares import room


class Desk:
    """A board and wishes that deeds change; `log` tells the deeds done, the oldest first."""

    def __init__(self, board):
        self.board = board
        self.wishes = Lot(board.pins)
        self.log = ()
        # What undo goes back to: board, wishes, log, and what it could go back to then; None if there is nothing.
        self.before = None
        self.kept = None

    def wish(self, one, other, many=1):
        """Adds wishes between two pins."""
        more = self.checked_wishes(one, other, many)
        wishes = self.wishes + more
        check_bar(self.board.pins, fence_table(self.board), wishes.table)
        self.move_on(self.board, wishes, ("wish", min(one, other), max(one, other), many))

    def unwish(self, one, other, many=1):
        """Takes wishes between two pins back."""
        less = self.checked_wishes(one, other, many)
        wishes = self.wishes - less
        self.move_on(self.board, wishes, ("unwish", min(one, other), max(one, other), many))

    def widen(self, track, by):
        """Gives a track another width."""
        board = self.board.widened(track, by)
        check_bar(board.pins, fence_table(board), self.wishes.table)
        self.move_on(board, self.wishes, ("widen", track, by))

    def undo(self):
        """Takes the last deed back."""
        if self.before is None:
            raise NothingToUndo()
        self.board, self.wishes, self.log, self.before = self.before

    def trial(self):
        """The desk for a `with` statement, behind whose block it is as it was when the block was entered."""
        return self

    def __enter__(self):
        self.kept = Kept(self, self.kept)
        self.before = None
        return self

    def __exit__(self, kind, value, trace):
        kept = self.kept
        self.board = kept.board
        self.wishes = kept.wishes
        self.log = kept.log
        self.before = kept.before
        self.kept = kept.outer

    def room(self, one, other):
        """The greatest number of wishes between two pins for which there is room."""
        return room(self.board, self.wishes, one, other)

    def wires(self):
        """Wires for twice the wishes on the board with twofold widths."""
        return lay_halves(self.board, self.wishes)

    def checked_wishes(self, one, other, many):
        """So many wishes between two pins, as a lot."""
        pins = self.board.pins
        check_pin(pins, one)
        check_pin(pins, other)
        if one == other:
            raise SamePin(one)
        check_number(many, 1)
        return Lot(pins, [(one, other, many)])

    def move_on(self, board, wishes, deed):
        """Sets what is there behind a deed."""
        self.before = (self.board, self.wishes, self.log, self.before)
        self.board = board
        self.wishes = wishes
        self.log = self.log + (deed,)


class Kept:
    """What a desk was like when a trial began; `outer` is what the trial around it has kept, or None."""

    def __init__(self, desk, outer):
        self.board = desk.board
        self.wishes = desk.wishes
        self.log = desk.log
        self.before = desk.before
        self.outer = outer


def perform(desk, steps):
    """Does steps at a desk, one after the other, and tells what came of each."""
    outcomes = []
    for step in steps:
        if step[0] == "trial":
            with desk.trial():
                outcomes.append(perform(desk, step[1]))
        else:
            outcomes.append(outcome_of(desk, step))
    return tuple(outcomes)


def outcome_of(desk, step):
    """Does a step that is no trial, and tells whether it could be done."""
    word = step[0]
    try:
        if word == "wish":
            desk.wish(step[1], step[2], step[3])
        elif word == "unwish":
            desk.unwish(step[1], step[2], step[3])
        elif word == "widen":
            desk.widen(step[1], step[2])
        elif word == "undo":
            desk.undo()
        else:
            return "refused"
    except RimError:
        return "refused"
    return "done"
