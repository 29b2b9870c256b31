"""Promises [30] to [37]."""

import random
import unittest

from rimcords.boards import Board
from rimcords.courses import Course
from rimcords.errors import (
    BadItem, BadJoint, BadNumber, BadPins, BadTrack, BadTurn, BadWidth, DoubleEnd, LooseJoint, MissingEnd, NotPlane,
)
from tests.boardhelpers import EMPTY, STAR, fields_of, random_board, random_boards, renumbered
from tests.helpers import BIG, NO_NUMBERS, as_lists, only_tuples, raised

# A pin with a track to itself, a dead end behind an inner joint, and a loop at that joint.
KNOT = Board(2, ((0, 2, 1), ()) + ((3, 4, 5, 6), (7,)), (3, 2, 4, 6))


class Making(unittest.TestCase):

    def test_fields(self):
        self.assertEqual((4, ((0,), (2,), (4,), (6,), (1, 3, 5, 7)), (1, 1, 1, 1)), fields_of(STAR))
        self.assertEqual((0, (), ()), fields_of(EMPTY))

    def test_turns_begin_where_they_were_begun(self):
        board = Board(1, ((0, 2), (3, 1)), (1, 1))
        self.assertEqual(((0, 2), (3, 1)), board.turns)
        self.assertEqual(((0, 2), (1, 3)), Board(1, ((0, 2), (1, 3)), (1, 1)).turns)

    def test_lists_and_tuples(self):
        for board in (STAR, KNOT, EMPTY):
            other = Board(*as_lists(fields_of(board)))
            self.assertEqual(fields_of(board), fields_of(other))
            self.assertTrue(only_tuples(fields_of(other)))
        turns = [[0], [1]]
        widths = [5]
        board = Board(2, turns, widths)
        turns[0].append(7)
        turns.append([3])
        widths[0] = 6
        self.assertEqual((2, ((0,), (1,)), (5,)), fields_of(board))

    def test_without_tracks(self):
        for pins in (1, 2, 40):
            self.assertEqual(((),) * pins, Board(pins, ((),) * pins, ()).turns)


class Wrong(unittest.TestCase):

    def wrong(self, error, fields, *args):
        raised(self, error, fields, Board, *args)

    def test_pins(self):
        for pins in NO_NUMBERS + (-1,):
            self.wrong(BadPins, {"pins": pins}, pins, (), (0,))

    def test_widths(self):
        for width in NO_NUMBERS + (0, -1):
            self.wrong(BadWidth, {"track": 1}, 2, (), (1, width, 0))
        self.wrong(BadWidth, {"track": 0}, 0, (), (0,))

    def test_too_few_turns(self):
        self.wrong(BadTurn, {"joint": 0}, 2, (), (1,))
        self.wrong(BadTurn, {"joint": 1}, 2, (None,), (1,))
        self.wrong(BadTurn, {"joint": 2}, 3, ((0,), (1,)), (1,))

    def test_turns(self):
        for turn in (None, 5, "01", {}, 0):
            self.wrong(BadTurn, {"joint": 1}, 2, ((0,), turn, (9,)), (1,))
        for end in NO_NUMBERS + (-1, 2):
            self.wrong(BadTurn, {"joint": 1}, 2, ((0, 0), (1, end)), (1,))
            self.wrong(BadTurn, {"joint": 0}, 1, ((end,),), (1,))
        self.wrong(BadTurn, {"joint": 0}, 1, ((0,),), ())

    def test_ends_that_stand_twice(self):
        self.wrong(DoubleEnd, {"end": 1}, 2, ((0, 1), (1, 0)), (1, 1))
        self.wrong(DoubleEnd, {"end": 2}, 2, ((2, 2), (0, 0)), (1, 1))

    def test_ends_that_are_missing(self):
        self.wrong(MissingEnd, {"end": 1}, 2, ((0,), ()), (1,))
        self.wrong(MissingEnd, {"end": 0}, 2, ((3,), (1,), ()), (1, 1))
        self.wrong(MissingEnd, {"end": 0}, 0, (), (1,))

    def test_loose_joints(self):
        self.wrong(LooseJoint, {"joint": 1}, 1, ((), ()), ())
        self.wrong(LooseJoint, {"joint": 0}, 0, ((),), ())
        self.wrong(LooseJoint, {"joint": 2}, 2, ((0,), (1,), (2,), (3,)), (1, 1))
        self.wrong(LooseJoint, {"joint": 3}, 2, ((0,), (1, 2), (3,), (4, 5)), (1, 1, 1))
        self.wrong(LooseJoint, {"joint": 0}, 0, ((0,), (1,)), (1,))

    def test_not_plane(self):
        self.wrong(NotPlane, {"found": 1, "due": 3}, 1, ((0, 2, 1, 3),), (1, 1))
        self.wrong(NotPlane, {"found": 1, "due": 3}, 4, ((0,), (2,), (1,), (3,)), (1, 1))
        # The order of the ends at the inner joint does not go round as the pins do.
        self.wrong(NotPlane, {"found": 2, "due": 4}, 4, ((0,), (2,), (4,), (6,), (1, 5, 3, 7)), (1, 1, 1, 1))

    def test_order_of_errors(self):
        self.wrong(BadPins, {"pins": -1}, -1, None, (0,))
        self.wrong(BadWidth, {"track": 0}, 1, (), (0,))
        self.wrong(BadTurn, {"joint": 1}, 2, ((0, 0, 7),), (1,))
        self.wrong(BadTurn, {"joint": 1}, 1, ((0, 0), (7,)), (1,))
        self.wrong(DoubleEnd, {"end": 0}, 1, ((0, 0), ()), (1,))
        self.wrong(MissingEnd, {"end": 1}, 1, ((0,), ()), (1,))
        self.wrong(LooseJoint, {"joint": 1}, 1, ((0, 2, 1, 3), ()), (1, 1))


class Lands(unittest.TestCase):

    def test_of_the_document(self):
        self.assertEqual(((-1, 0), (-2, 1)), Board(2, ((0,), (1,)), (1,)).lands)

    def test_star(self):
        self.assertEqual(((-1, 0, 3), (-2, 2, 5), (-3, 4, 7), (-4, 6, 1)), STAR.lands)

    def test_without_tracks(self):
        self.assertEqual(((-1,),), EMPTY.lands)
        self.assertEqual(((-1,),), Board(1, ((),), ()).lands)
        self.assertEqual(((-1, -3, -2),), Board(3, ((), (), ()), ()).lands)

    def test_loops_and_dead_ends(self):
        self.assertEqual(((-1, 0), (1,)), Board(1, ((0, 1),), (3,)).lands)
        self.assertEqual(((-1, 0, 1),), Board(1, ((0,), (1,)), (2,)).lands)
        self.assertEqual(((-1, 0, -2), (1, 2, 4, 6, 7, 3), (5,)), KNOT.lands)

    def test_several_tracks_between_two_joints(self):
        board = Board(2, ((0, 2, 4), (5, 3, 1)), (1, 2, 3))
        self.assertEqual(((-1, 0), (-2, 5), (1, 2), (3, 4)), board.lands)

    def test_gaps_in_the_same_land(self):
        board = Board(4, ((0,), (), (1,), ()), (1,))
        self.assertEqual(((-1, 0, -2), (-3, 1, -4)), board.lands)

    def test_by_the_walk(self):
        for board in random_boards(32, 60, even=False) + [STAR, KNOT]:
            lands = board.lands
            pins = board.pins
            items = [item for land in lands for item in land]
            ends = list(range(2 * len(board.widths)))
            self.assertEqual(sorted(items), [-1 - gap for gap in range(max(pins, 1))][::-1] + ends)
            for land in lands:
                for place, item in enumerate(land):
                    self.assertEqual(land[(place + 1) % len(land)], self.behind(board, item))
            firsts = [land[0] for land in lands]
            outer = [first for first in firsts if first < 0]
            self.assertEqual(firsts, sorted(outer, reverse=True) + sorted(set(firsts) - set(outer)))
            for land in lands:
                gaps = [item for item in land if item < 0]
                self.assertEqual(land[0], max(gaps) if gaps else min(land))
            self.assertTrue(only_tuples(lands))

    def behind(self, board, item):
        if item < 0:
            if board.pins == 0:
                return item
            turn = board.turns[-1 - item]
            return turn[0] if turn else -1 - (-2 - item) % board.pins
        other = item + 1 if item % 2 == 0 else item - 1
        joint = [joint for joint, turn in enumerate(board.turns) if other in turn][0]
        turn = board.turns[joint]
        place = turn.index(other) + 1
        if place < len(turn):
            return turn[place]
        return -1 - (joint - 1) % board.pins if joint < board.pins else turn[0]

    def test_land_at(self):
        for board in (STAR, KNOT, EMPTY, Board(3, ((), (), ()), ())):
            for number, land in enumerate(board.lands):
                for item in land:
                    self.assertEqual(number, board.land_at(item))

    def test_land_at_no_item(self):
        for item in NO_NUMBERS + (8, -5):
            raised(self, BadItem, {"item": item}, STAR.land_at, item)
        raised(self, BadItem, {"item": 0}, EMPTY.land_at, 0)
        raised(self, BadItem, {"item": -2}, EMPTY.land_at, -2)
        raised(self, BadItem, {"item": -2}, Board(1, ((),), ()).land_at, -2)


class Joints(unittest.TestCase):

    def test_joint_of(self):
        self.assertEqual([0, 4, 1, 4, 2, 4, 3, 4], [STAR.joint_of(end) for end in range(8)])
        self.assertEqual([0, 0, 0, 2, 2, 2, 2, 3], [KNOT.joint_of(end) for end in range(8)])
        for end in NO_NUMBERS + (-1, 8):
            raised(self, BadItem, {"item": end}, STAR.joint_of, end)
        raised(self, BadItem, {"item": 0}, EMPTY.joint_of, 0)

    def test_ends(self):
        self.assertEqual([1, 1, 1, 1, 4], [STAR.ends(joint) for joint in range(5)])
        self.assertEqual([8, 0, 16, 6], [KNOT.ends(joint) for joint in range(4)])
        for joint in NO_NUMBERS + (-1, 5):
            raised(self, BadJoint, {"joint": joint}, STAR.ends, joint)
        raised(self, BadJoint, {"joint": 0}, EMPTY.ends, 0)

    def test_odd_joints(self):
        self.assertEqual((), STAR.odd_joints())
        self.assertEqual((), EMPTY.odd_joints())
        self.assertEqual((), Board(2, ((0,), (1,)), (1,)).odd_joints())
        self.assertEqual((4,), STAR.widened(2, 1).odd_joints())
        board = Board(1, ((0,), (1, 2), (3, 4), (5,)), (1, 2, 3))
        self.assertEqual((1, 2, 3), board.odd_joints())
        self.assertEqual((2, 3), board.widened(0, 1).odd_joints())
        # A track from a joint to itself counts twice.
        self.assertEqual((), Board(1, ((0,), (1, 2, 3)), (2, 5)).odd_joints())


class Form(unittest.TestCase):

    def test_numbers(self):
        board = Board(2, ((3,), (0,), (1, 2)), (5, 7))
        self.assertEqual((2, ((0,), (2,), (1, 3)), (7, 5)), board.form)
        self.assertEqual((4, ((0,), (2,), (4,), (6,), (1, 3, 5, 7)), (1, 1, 1, 1)), STAR.form)
        self.assertEqual((0, (), ()), EMPTY.form)

    def test_turns_begin_with_the_end_that_was_met(self):
        board = Board(2, ((6,), (4,), (0, 2, 7), (1, 5, 3)), (1, 2, 3, 4))
        self.assertEqual((2, ((0,), (2,), (1, 4, 6), (3, 7, 5)), (4, 3, 1, 2)), board.form)

    def test_joints_in_the_order_in_which_they_are_met(self):
        # Joint 4 is met first, from pin 0, then joint 2, from pin 1, and only then joint 3, from joint 4.
        board = Board(2, ((4,), (2,), (3,), (1,), (0, 5)), (1, 2, 3))
        self.assertEqual((2, ((0,), (2,), (1, 4), (3,), (5,)), (3, 2, 1)), board.form)

    def test_loops(self):
        self.assertEqual((1, ((0, 1),), (3,)), Board(1, ((1, 0),), (3,)).form)
        board = Board(1, ((2,), (1, 3, 0)), (4, 6))
        self.assertEqual((1, ((0,), (1, 2, 3)), (6, 4)), board.form)

    def test_same_drawing(self):
        rng = random.Random(36)
        for board in random_boards(36, 60, even=False) + [STAR, KNOT]:
            for _ in range(4):
                other = renumbered(rng, board)
                self.assertEqual(board.form, other.form)
                self.assertIs(True, board == other)
            self.assertEqual(board.form, Board(*board.form).form)
            self.assertIs(True, board == Board(*board.form))
            self.assertTrue(only_tuples(board.form))

    def test_other_drawings(self):
        boards = [
            EMPTY, Board(1, ((),), ()), Board(2, ((), ()), ()), Board(2, ((0,), (1,)), (1,)),
            Board(2, ((0,), (1,)), (2,)), Board(2, ((0, 2), (3, 1)), (1, 1)), Board(2, ((0, 2), (3, 1)), (1, 2)),
            Board(2, ((0, 2), (3, 1)), (2, 1)), Board(2, ((0, 1), ()), (1,)), Board(2, ((), (0, 1)), (1,)),
            Board(2, ((0,), (3,), (1, 2)), (1, 1)), Board(2, ((0,), (3,), (1, 2, 4, 5)), (1, 1, 1)),
            Board(2, ((0,), (3,), (1, 4, 5, 2)), (1, 1, 1)), Board(2, ((0,), (3,), (1, 4, 2), (5,)), (1, 1, 1)),
            Board(2, ((0,), (3,), (1, 2, 4), (5,)), (1, 1, 1)), Board(2, ((0,), (3,), (1, 2), ), (2, 1)), STAR,
        ]
        for at, one in enumerate(boards):
            for place, other in enumerate(boards):
                self.assertIs(at == place, one == other)
                self.assertIs(at != place, one != other)

    def test_other_kinds(self):
        for other in (None, 0, fields_of(STAR), "board"):
            self.assertIs(False, STAR == other)


class Widths(unittest.TestCase):

    def test_times(self):
        board = KNOT * 5
        self.assertEqual((2, KNOT.turns, (15, 10, 20, 30)), fields_of(board))
        self.assertEqual(fields_of(KNOT), fields_of(KNOT * 1))
        self.assertEqual((BIG * BIG,), (Board(2, ((0,), (1,)), (BIG,)) * BIG).widths)
        for number in NO_NUMBERS + (0, -1):
            raised(self, BadNumber, {"number": number}, lambda: KNOT * number)

    def test_widened(self):
        self.assertEqual((2, KNOT.turns, (3, 2, 9, 6)), fields_of(KNOT.widened(2, 5)))
        self.assertEqual((2, KNOT.turns, (3, 2, 1, 6)), fields_of(KNOT.widened(2, -3)))
        self.assertEqual(fields_of(KNOT), fields_of(KNOT.widened(0, 0)))
        self.assertEqual((3, 2, 4, 6), KNOT.widths)

    def test_widened_wrong(self):
        for track in NO_NUMBERS + (-1, 4):
            raised(self, BadTrack, {"track": track}, KNOT.widened, track, -99)
        raised(self, BadWidth, {"track": 2}, KNOT.widened, 2, -4)
        raised(self, BadWidth, {"track": 2}, KNOT.widened, 2, -BIG)
        raised(self, BadTrack, {"track": 0}, EMPTY.widened, 0, 1)

    def test_cut(self):
        board = Board(2, ((0, 2, 4), (5, 3, 1)), (1, 2, 3))
        self.assertEqual((2, ((0, 2), (3, 1)), (2, 3)), fields_of(board.cut(0)))
        self.assertEqual((2, ((0, 2), (3, 1)), (1, 3)), fields_of(board.cut(1)))
        self.assertEqual((2, ((0, 2), (3, 1)), (1, 2)), fields_of(board.cut(2)))
        self.assertEqual((2, ((), ()), ()), fields_of(Board(2, ((1,), (0,)), (1,)).cut(0)))

    def test_cut_takes_loose_joints_away(self):
        self.assertEqual((2, ((0, 1), ()), (3,)), fields_of(KNOT.cut(1)))
        self.assertEqual((2, ((0, 2, 1), (), (3, 4, 5)), (3, 2, 4)), fields_of(KNOT.cut(3)))
        self.assertEqual((2, ((0, 2, 1), (), (3, 4), (5,)), (3, 2, 6)), fields_of(KNOT.cut(2)))
        self.assertEqual((2, ((0,), (), (1, 2, 3, 4), (5,)), (2, 4, 6)), fields_of(KNOT.cut(0)))
        self.assertEqual((1, ((),), ()), fields_of(Board(1, ((0,), (1,)), (2,)).cut(0)))

    def test_cut_keeps_the_order_of_the_rest(self):
        # Joint 2 hangs on track 1 alone, with track 3 behind it; joints 3 and 4 remain.
        board = Board(2, ((9, 0, 2), (), (3, 7), (6,), (1, 5), (4, 8)), (1, 2, 3, 4, 5))
        self.assertEqual((2, ((5, 0), (), (1, 3), (2, 4)), (1, 3, 5)), fields_of(board.cut(1)))

    def test_cut_wrong(self):
        for track in NO_NUMBERS + (-1, 4):
            raised(self, BadTrack, {"track": track}, KNOT.cut, track)
        raised(self, BadTrack, {"track": 0}, EMPTY.cut, 0)

    def test_equal_boards_stay_equal(self):
        rng = random.Random(37)
        for board in random_boards(37, 40, even=False):
            other = renumbered(rng, board)
            self.assertEqual(board * 3, other * 3)
        for board in (STAR, KNOT):
            tracks = range(len(board.widths))
            other = renumbered(rng, board)
            for deed in (lambda b, t: b.cut(t), lambda b, t: b.widened(t, 9)):
                forms = sorted(deed(board, track).form for track in tracks)
                self.assertEqual(forms, sorted(deed(other, track).form for track in tracks))


class Great(unittest.TestCase):

    def test_great_boards(self):
        board = random_board(random.Random(38), 150, 40)
        board = Course([("pin", 0)] * (40 - board.pins))(board) * BIG
        self.assertEqual(40, board.pins)
        self.assertEqual(board, Board(*board.form))
        self.assertEqual((), board.odd_joints())
