"""Promises [60], [61] and [62], and the odd lands of [63]."""

import itertools
import random
import unittest

from rimcords.boards import Board
from rimcords.duals import distance, distances, dual, odd_lands, way
from rimcords.errors import BadPin, BadPins, SharedLand
from rimcords.fences import fence, fence_cost, fence_table, is_fence
from rimcords.wires import wire_joints
from tests.boardhelpers import EMPTY, SHAPES, STAR, fields_of, grid_board, random_boards, renumbered, ring_board
from tests.helpers import BIG, NO_NUMBERS, only_tuples, raised

# Pins 0, 1 and 2 in a row, the inner joint 3 beyond pin 1 with a track to itself, and a track from pin 0 to pin 2.
ROW = Board(3, ((0, 8), (2, 4, 1), (9, 3), (5, 6, 7)), (2, 3, 4, 5, 6))


def has_dual(board):
    lands = [board.land_at(-1 - gap) for gap in range(board.pins)]
    return board.pins > 0 and len(set(lands)) == len(lands)


def joined_boards(seed, many, even=False):
    """Random boards that have a dual, among them duals and boards with one pin."""
    boards = [board for board in random_boards(seed, many, pins=6, length=60, even=even) if has_dual(board)]
    return boards + [board for board in SHAPES if has_dual(board)] + [ROW]


def plain_distances(board):
    """The least costs between joints, by lowering them over each joint."""
    joints = range(len(board.turns))
    rows = [[0 if one == other else None for other in joints] for one in joints]
    for track, width in enumerate(board.widths):
        one, other = board.joint_of(2 * track), board.joint_of(2 * track + 1)
        if one != other and (rows[one][other] is None or width < rows[one][other]):
            rows[one][other] = rows[other][one] = width
    for middle, one, other in itertools.product(joints, repeat=3):
        if rows[one][middle] is not None and rows[middle][other] is not None:
            cost = rows[one][middle] + rows[middle][other]
            if rows[one][other] is None or cost < rows[one][other]:
                rows[one][other] = cost
    return tuple(tuple(row[:board.pins]) for row in rows[:board.pins])


class Dual(unittest.TestCase):

    def test_star(self):
        # Lands are (-1, 0, 3), (-2, 2, 5), (-3, 4, 7), (-4, 6, 1), and are read backwards.
        self.assertEqual((4, ((3, 0), (5, 2), (7, 4), (1, 6)), (1, 1, 1, 1)), fields_of(dual(STAR)))
        self.assertEqual((4, ((3, 0), (5, 2), (7, 4), (1, 6)), (7, 1, 1, 1)), fields_of(dual(STAR.widened(0, 6))))

    def test_few_tracks(self):
        self.assertEqual((1, ((),), ()), fields_of(dual(Board(1, ((),), ()))))
        self.assertEqual((2, ((0,), (1,)), (5,)), fields_of(dual(Board(2, ((0,), (1,)), (5,)))))
        # A track to itself parts a land inside from the one with the gap; a dead end has one land on both sides.
        self.assertEqual((1, ((0,), (1,)), (3,)), fields_of(dual(Board(1, ((0, 1),), (3,)))))
        self.assertEqual((1, ((1,), (0,)), (3,)), fields_of(dual(Board(1, ((1, 0),), (3,)))))
        self.assertEqual((1, ((1, 0),), (3,)), fields_of(dual(Board(1, ((0,), (1,)), (3,)))))

    def test_lands_without_gaps(self):
        board = Board(2, ((0, 2), (3, 1)), (1, 2))
        self.assertEqual(((-1, 0), (-2, 3), (1, 2)), board.lands)
        self.assertEqual((2, ((0,), (3,), (2, 1)), (1, 2)), fields_of(dual(board)))

    def test_exactly_by_the_definition(self):
        for board in joined_boards(600, 200):
            before = fields_of(board)
            other = dual(board)
            self.assertEqual(before, fields_of(board))
            self.assertIs(Board, other.__class__)
            self.assertEqual(board.widths, other.widths)
            self.assertEqual(board.pins, other.pins)
            self.assertEqual(len(board.lands), len(other.turns))
            for end in range(2 * len(board.widths)):
                self.assertEqual(board.land_at(end), other.joint_of(end))
            for gap in range(board.pins):
                self.assertEqual(gap, board.land_at(-1 - gap))
                self.assertEqual(board.lands[gap], (-1 - gap,) + other.turns[gap][::-1])
            for land in range(board.pins, len(board.lands)):
                self.assertEqual(board.lands[land], other.turns[land][::-1])
            self.assertTrue(only_tuples(fields_of(other)))

    def test_fences_are_wires_of_the_dual(self):
        for board in joined_boards(601, 60):
            other = dual(board)
            for first, last in itertools.permutations(range(board.pins), 2):
                steps = fence(board, first, last)
                self.assertEqual((first, last), wire_joints(other, steps))
                self.assertIs(True, is_fence(board, first, last, way(other, first, last)))

    def test_more_joints_than_a_board_may_have(self):
        grid = grid_board(random.Random(602), 2, 10)
        self.assertEqual(24 + 9, len(dual(grid).turns))
        board = Board(1, (list(range(320)),), [BIG] * 160)
        self.assertEqual(161, len(dual(board).turns))
        self.assertEqual((BIG,) * 160, dual(board).widths)

    def test_boards_without_pins(self):
        raised(self, BadPins, {"pins": 0}, dual, EMPTY)

    def test_shared_lands(self):
        raised(self, SharedLand, {"first": 0, "last": 1}, dual, Board(3, ((), (), ()), ()))
        raised(self, SharedLand, {"first": 0, "last": 1}, dual, Board(2, ((), ()), ()))
        raised(self, SharedLand, {"first": 1, "last": 3}, dual, Board(4, ((0,), (1,), (2,), (3,)), (1, 1)))
        raised(self, SharedLand, {"first": 0, "last": 2}, dual, Board(4, ((0,), (2,), (3,), (1,)), (2, 3)))
        # Gaps 1 and 2 share a land, but gaps 0 and 4 are told, since 0 comes first.
        board = Board(5, ((0,), (2,), (), (3,), (1,)), (1, 1))
        self.assertEqual([0, 1, 1, 0, 2], [board.land_at(-1 - gap) for gap in range(5)])
        raised(self, SharedLand, {"first": 0, "last": 3}, dual, board)

    def test_shared_lands_by_the_definition(self):
        for board in random_boards(603, 150, even=False):
            shared = [(i, j) for i, j in itertools.combinations(range(board.pins), 2)
                      if board.land_at(-1 - i) == board.land_at(-1 - j)]
            if shared:
                raised(self, SharedLand, {"first": shared[0][0], "last": shared[0][1]}, dual, board)


class Twice(unittest.TestCase):

    def test_the_dual_of_the_dual(self):
        for board in joined_boards(610, 200):
            self.assertTrue(has_dual(dual(board)))
            self.assertEqual(board.turned(-1), dual(dual(board)))
            self.assertEqual(board, dual(dual(dual(dual(board)))).turned(2))

    def test_boards_with_the_same_drawing(self):
        rng = random.Random(611)
        for board in joined_boards(611, 80):
            self.assertEqual(dual(board), dual(renumbered(rng, board)))
            self.assertEqual(dual(board), dual(Board(*board.form)))

    def test_turns_and_mirror_images(self):
        for board in joined_boards(612, 60):
            for steps in (-1, 1, 2, 5):
                self.assertEqual(dual(board).turned(steps), dual(board.turned(steps)))
            self.assertEqual(dual(board).mirrored().turned(-1), dual(board.mirrored()))


class Distances(unittest.TestCase):

    def test_row(self):
        self.assertEqual(((0, 2, 5), (2, 0, 3), (5, 3, 0)), distances(ROW))
        self.assertEqual(5, distance(ROW, 0, 2))
        self.assertEqual((0, 2), way(ROW, 0, 2))
        self.assertEqual((3, 1), way(ROW, 2, 0))
        self.assertEqual((8,), way(ROW.widened(4, -2), 0, 2))

    def test_the_same_pin(self):
        for board in SHAPES:
            for pin in range(board.pins):
                self.assertEqual(0, distance(board, pin, pin))
                self.assertEqual((), way(board, pin, pin))

    def test_no_way(self):
        board = Board(4, ((0,), (2,), (3,), (1,)), (2, 3))
        self.assertEqual(((0, None, None, 2), (None, 0, 3, None), (None, 3, 0, None), (2, None, None, 0)),
                         distances(board))
        for one, other in ((0, 1), (1, 0), (2, 3), (3, 1)):
            self.assertIs(None, distance(board, one, other))
            self.assertIs(None, way(board, one, other))
        self.assertEqual(((0, None), (None, 0)), distances(Board(2, ((), ()), ())))

    def test_few_pins(self):
        self.assertEqual((), distances(EMPTY))
        self.assertEqual(((0,),), distances(Board(1, ((0, 1),), (3,))))

    def test_by_the_definition(self):
        for board in (*random_boards(620, 150, even=False, length=60), *SHAPES, ROW, ring_board(9)):
            due = plain_distances(board)
            self.assertEqual(due, distances(board))
            self.assertTrue(only_tuples(distances(board)))
            for one, other in itertools.product(range(board.pins), repeat=2):
                self.assertEqual(due[one][other], distance(board, one, other))
                steps = way(board, one, other)
                if one != other and due[one][other] is not None:
                    self.assertTrue(only_tuples(steps))
                    self.assertEqual((one, other), wire_joints(board, steps))
                    self.assertEqual(due[one][other], fence_cost(board, steps))
                else:
                    self.assertEqual(() if one == other else None, steps)

    def test_fences_of_the_dual(self):
        for board in joined_boards(621, 100):
            table = fence_table(dual(board))
            for i, j in itertools.product(range(board.pins), repeat=2):
                self.assertEqual(distance(board, (i + 1) % board.pins, (j + 1) % board.pins), table[i][j])

    def test_great_boards(self):
        board = grid_board(random.Random(622), 1, 19) * (BIG // 5)
        self.assertEqual(plain_distances(board), distances(board))
        self.assertGreater(distance(board, 0, 18), BIG)
        self.assertEqual(distance(board, 0, 18), fence_cost(board, way(board, 0, 18)))

    def test_bad_pins(self):
        for call in (distance, way):
            for pin in NO_NUMBERS + (-1, 4):
                raised(self, BadPin, {"pin": pin}, call, STAR, pin, 99)
                raised(self, BadPin, {"pin": pin}, call, STAR, 3, pin)
                raised(self, BadPin, {"pin": pin}, call, STAR, pin, pin)
            raised(self, BadPin, {"pin": 0}, call, EMPTY, 0, 1)


class OddLands(unittest.TestCase):

    def test_none(self):
        for board in (EMPTY, STAR, Board(1, ((0,), (1,)), (3,)), Board(3, ((), (), ()), ())):
            self.assertEqual((), odd_lands(board))

    def test_lands_inside(self):
        self.assertEqual((1,), odd_lands(Board(1, ((0, 1),), (3,))))
        self.assertEqual((), odd_lands(Board(1, ((0, 1),), (4,))))
        self.assertEqual((2,), odd_lands(Board(2, ((0, 2), (3, 1)), (1, 2))))
        self.assertEqual((), odd_lands(Board(2, ((0, 2), (3, 1)), (1, 3))))
        # A track that has the land on both sides counts twice.
        self.assertEqual((1,), odd_lands(Board(1, ((0, 2, 1), (3,)), (1, 1))))
        self.assertEqual((), odd_lands(Board(1, ((0, 2, 1), (3,)), (2, 1))))

    def test_by_the_definition(self):
        for board in (*random_boards(630, 100, even=False), *SHAPES):
            due = [number for number, land in enumerate(board.lands)
                   if all(item >= 0 for item in land) and sum(board.widths[end // 2] for end in land) % 2 == 1]
            self.assertEqual(tuple(due), odd_lands(board))
            self.assertTrue(only_tuples(odd_lands(board)))
            self.assertEqual((), odd_lands(board * 2))
            if has_dual(board):
                self.assertEqual(tuple(due), dual(board).odd_joints())
