"""Promise [48]."""

import random
import unittest

from rimcords.boards import Board
from rimcords.building import course_of
from rimcords.courses import Course
from rimcords.errors import OddJoint
from rimcords.fences import cords_by_fences
from rimcords.lots import Lot
from tests.boardhelpers import EMPTY, SHAPES, STAR, fields_of, grid_board, random_boards, renumbered, ring_board
from tests.helpers import BIG, only_tuples, raised


class CourseOf(unittest.TestCase):

    def built(self, board):
        before = fields_of(board)
        course = course_of(board)
        self.assertEqual(before, fields_of(board))
        self.assertIs(Course, course.__class__)
        self.assertTrue(only_tuples(course.deeds))
        self.assertEqual(board, course(EMPTY))
        self.assertEqual(board.form, course(EMPTY).form)
        self.assertEqual(cords_by_fences(board), course(Lot(0)))
        return course

    def test_the_empty_board(self):
        self.assertEqual((), self.built(EMPTY).deeds)

    def test_shapes(self):
        for board in SHAPES:
            with self.subTest(board=fields_of(board)):
                self.built(board)

    def test_each_turn_and_mirror_image(self):
        for board in SHAPES:
            for steps in range(board.pins):
                self.built(board.turned(steps))
                self.built(board.mirrored().turned(steps))

    def test_any_numbers_of_joints_and_tracks(self):
        rng = random.Random(480)
        for board in random_boards(480, 150, pins=8, length=60):
            self.built(board)
            self.built(renumbered(rng, board))

    def test_drawings_and_not_only_lots(self):
        # Alike boards of several drawings: each must be built as it is drawn.
        boards = [
            Board(2, ((0,), (1,)), (2,)), Board(2, ((0, 2), (3, 1)), (1, 1)), Board(2, ((0,), (2,), (1, 3)), (2, 2)),
            Board(2, ((0, 2, 3), (1,)), (2, 7)), Board(2, ((0,), (2,), (1, 3, 4), (5,)), (2, 2, 2)),
            Board(2, ((0,), (2,), (1, 4, 5, 3)), (2, 2, 1)), Board(2, ((0,), (2,), (1, 3, 4, 5)), (2, 2, 1)),
        ]
        self.assertEqual(len(boards), len({board.form for board in boards}))
        for board in boards:
            self.assertEqual(Lot(2, [(0, 1, 2)]), cords_by_fences(board))
            self.built(board)

    def test_grids_and_rings(self):
        rng = random.Random(481)
        for rows, columns in ((1, 1), (1, 6), (3, 3), (4, 5), (6, 6)):
            self.built(grid_board(rng, rows, columns))
        for pins in (2, 3, 9):
            self.built(ring_board(pins))
            self.built(ring_board(pins).mirrored())

    def test_great_boards(self):
        grid = grid_board(random.Random(482), 4, 10)
        self.assertEqual(68, len(grid.turns))
        widened = Board(grid.pins, grid.turns, [BIG] * len(grid.widths))
        self.assertLessEqual(len(self.built(widened)), 500)
        self.built(Board(1, (list(range(320)),), [BIG] * 160))
        self.built(Board(1, (list(range(0, 320, 2)) + list(range(319, 0, -2)),), range(1, 161)))
        self.built(self.rosette(150))

    def rosette(self, loops):
        """A pin, and an inner joint with many tracks to itself."""
        return Board(1, ((0,), tuple(range(1, 2 * loops + 2))), (BIG,) + (BIG - 1,) * loops)

    def test_odd_joints(self):
        raised(self, OddJoint, {"joint": 4}, course_of, STAR.widened(2, 1))
        board = Board(1, ((0,), (1, 2), (3, 4), (5,)), (1, 2, 3))
        raised(self, OddJoint, {"joint": 1}, course_of, board)
        raised(self, OddJoint, {"joint": 2}, course_of, board.widened(0, 1))

    def test_odd_pins_are_no_matter(self):
        self.built(Board(2, ((0,), (1,)), (7,)))
        self.built(STAR)
