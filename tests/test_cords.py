"""Promise [49]."""

import itertools
import random
import unittest

from rimcords.boards import Board
from rimcords.building import course_of
from rimcords.cords import cords
from rimcords.courses import Course
from rimcords.errors import OddJoint, Refused
from rimcords.fences import cords_by_fences, fence_table
from rimcords.lots import Lot
from tests.boardhelpers import EMPTY, SHAPES, STAR, grid_board, random_boards, random_course
from tests.helpers import BIG, only_tuples, raised


class Cords(unittest.TestCase):

    def test_example_of_the_document(self):
        self.assertEqual(((0, 2, 1), (1, 3, 1)), cords(STAR).cords)

    def test_shapes(self):
        due = [
            Lot(0), Lot(1), Lot(3), Lot(1), Lot(1), Lot(1), Lot(1), Lot(2), Lot(2, [(0, 1, 5)]), Lot(2, [(0, 1, 3)]),
            Lot(3, [(0, 1, 3)]), Lot(4, [(0, 3, 2), (1, 2, 3)]), Lot(5, [(0, 2, 1), (2, 4, 1)]),
            Lot(4, [(0, 2, 1), (1, 3, 1)]),
        ]
        self.assertEqual(due, [cords(board) for board in SHAPES[:len(due)]])
        self.assertTrue(only_tuples(cords(STAR).cords))
        self.assertIs(Lot, cords(EMPTY).__class__)

    def test_joints_in_a_row(self):
        # What is narrow in the middle bars what is wide at the ends.
        self.assertEqual(Lot(2, [(0, 1, 2)]), cords(Board(2, ((0,), (5,), (1, 2), (3, 4)), (8, 2, 6))))

    def test_by_fences(self):
        for board in (*random_boards(490, 150, pins=8, length=50), *SHAPES):
            self.assertEqual(cords_by_fences(board), cords(board))
            self.assertEqual(fence_table(board), cords(board).table)

    def test_whatever_course_builds_the_board(self):
        rng = random.Random(491)
        for _ in range(100):
            course = random_course(rng, rng.randint(0, 40), 8)
            self.assertEqual(course(Lot(0)), cords(course(EMPTY)))
            self.assertEqual(course(Lot(0)), cords(course_of(course(EMPTY))(EMPTY)))

    def test_deeds(self):
        for board in random_boards(492, 40):
            lot = cords(board)
            for word, number in itertools.product(("pin", "merge", "drop", "turn"), range(7)):
                self.same(Course([(word, number)]), board, lot)
            for gap in range(6):
                self.same(Course([("track", gap, gap + 1)]), board, lot)
            self.same(Course([("mirror",)]), board, lot)

    def same(self, course, board, lot):
        try:
            due = course(lot)
        except Refused as refused:
            raised(self, Refused, {"place": 0, "deed": refused.deed}, course, board)
        else:
            self.assertEqual(due, cords(course(board)))

    def test_boards_beside_one_another(self):
        boards = random_boards(493, 30, pins=4)
        for one, other in zip(boards, boards[1:]):
            self.assertEqual(cords(one).beside(cords(other)), cords(one.beside(other)))
            for gap in range(max(one.pins, 1)):
                self.assertEqual(cords(one).beside(cords(other), gap=gap), cords(one.beside(other, gap=gap)))

    def test_tracks_between_two_pins_are_cords(self):
        seen = 0
        for board in (*random_boards(494, 150), *SHAPES):
            for track, width in enumerate(board.widths):
                a, b = sorted((board.joint_of(2 * track), board.joint_of(2 * track + 1)))
                if a < b < board.pins:
                    seen += 1
                    self.assertEqual(cords(board.cut(track)) + Lot(board.pins, [(a, b, width)]), cords(board))
        self.assertGreater(seen, 50)

    def test_great_boards(self):
        board = grid_board(random.Random(495), 4, 10)
        self.assertEqual(cords(board) * BIG, cords(Board(board.pins, board.turns, [n * BIG for n in board.widths])))

    def test_odd_joints(self):
        raised(self, OddJoint, {"joint": 4}, cords, STAR.widened(2, 1))
        board = Board(1, ((0,), (1, 2), (3, 4), (5,)), (1, 2, 3))
        raised(self, OddJoint, {"joint": 1}, cords, board)
        raised(self, OddJoint, {"joint": 2}, cords, board.widened(0, 1))
