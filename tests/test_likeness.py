"""Promises [58] and [59]."""

import itertools
import random
import unittest

from rimcords.boards import Board
from rimcords.cords import cords
from rimcords.courses import Course
from rimcords.errors import Barred, OddEnds, OddJoint, Refused, UnlikePins
from rimcords.laying import lay
from rimcords.likeness import alike, never_worse, parting
from rimcords.lots import Lot
from rimcords.moves import moved, moves
from rimcords.straights import straight
from rimcords.wires import are_wires
from tests.boardhelpers import EMPTY, SHAPES, STAR, grid_board, random_boards, renumbered
from tests.helpers import BIG, all_lots, plain_fits, raised, random_lot

ODD = STAR.widened(2, 1)
RAILS = Board(4, ((0,), (1,), (2,), (3,)), (1, 1))


def is_laid(board, wishes):
    try:
        wires = lay(board, wishes)
    except (Barred, OddEnds):
        return False
    return are_wires(board, wishes, wires)


class Likeness(unittest.TestCase):

    def compared(self, one, two):
        first, second = cords(one), cords(two)
        self.assertIs(first == second, alike(one, two))
        self.assertIs(plain_fits(second, first), never_worse(one, two))
        found = parting(one, two)
        if first == second:
            self.assertIs(None, found)
        else:
            self.assertEqual(first if plain_fits(second, first) else second, found)
            self.assertIs(Lot, found.__class__)
            self.assertNotEqual(is_laid(one, found), is_laid(two, found))

    def test_star(self):
        self.assertIs(False, alike(STAR, RAILS))
        self.assertIs(True, never_worse(STAR, RAILS))
        self.assertIs(False, never_worse(RAILS, STAR))
        self.assertEqual(cords(STAR), parting(STAR, RAILS))
        self.assertEqual(cords(STAR), parting(RAILS, STAR))
        self.assertEqual(cords(RAILS.turned(1)), parting(RAILS, RAILS.turned(1)))
        self.assertEqual(cords(RAILS), parting(RAILS.turned(1), RAILS))

    def test_alike_boards_of_other_drawings(self):
        one = Board(2, ((0,), (1,)), (2,))
        two = Board(2, ((0, 2), (3, 1)), (1, 1))
        three = Board(2, ((0,), (2,), (1, 3, 4), (5,)), (2, 2, 2))
        for a, b in itertools.product((one, two, three), repeat=2):
            self.assertIs(True, alike(a, b))
            self.assertIs(True, never_worse(a, b))
            self.assertIs(None, parting(a, b))

    def test_boards_that_differ_by_odd_ends(self):
        one = Board(2, ((0,), (1,)), (2,))
        two = Board(2, ((0,), (1,)), (1,))
        self.assertIs(False, never_worse(one, two))
        self.assertIs(False, never_worse(two, one))
        self.assertEqual(cords(two), parting(one, two))
        self.assertEqual(cords(one), parting(two, one))

    def test_boards_without_cords(self):
        for board in SHAPES[:8]:
            other = Board(board.pins, [()] * board.pins, ())
            self.assertIs(True, alike(board, other))
            self.assertIs(None, parting(other, board))

    def test_many_boards(self):
        rng = random.Random(580)
        for pins in range(1, 6):
            boards = [board for board in random_boards(580 + pins, 60, pins=pins, length=30) if board.pins == pins][:15]
            boards += [straight(random_lot(rng, pins, 3, 2)) for _ in range(6)]
            for one, two in itertools.product(boards, repeat=2):
                self.compared(one, two)

    def test_all_that_can_be_laid(self):
        boards = [straight(lot) for lot in all_lots(4, 2)]
        wishes = all_lots(4, 2)
        laid = [[is_laid(board, wish) for wish in wishes] for board in boards]
        for (one, here), (two, there) in itertools.product(zip(boards, laid), repeat=2):
            self.assertIs(all(mine for mine, other in zip(here, there) if other), never_worse(one, two))
            self.assertIs(here == there, alike(one, two))

    def test_great_numbers(self):
        grid = grid_board(random.Random(581), 4, 10)
        one = Board(grid.pins, grid.turns, [n * (BIG // 5) for n in grid.widths])
        self.assertIs(True, alike(one, one.mirrored().mirrored()))
        two = STAR * BIG
        self.assertIs(True, never_worse(two, two.widened(0, -2)))
        self.assertIs(False, never_worse(two.widened(0, -2), two))
        self.assertEqual(cords(two), parting(two, two.widened(0, -2)))

    def test_errors_in_order(self):
        for call in (alike, never_worse, parting):
            raised(self, UnlikePins, {"one": 4, "other": 0}, call, ODD, EMPTY)
            raised(self, UnlikePins, {"one": 3, "other": 4}, call, Board(3, ((), (), ()), ()), ODD)
            raised(self, OddJoint, {"joint": 4}, call, ODD, STAR)
            raised(self, OddJoint, {"joint": 4}, call, STAR, ODD)
            other = Board(4, ((0,), (), (), (), (1, 2), (3,)), (2, 1))
            raised(self, OddJoint, {"joint": 4}, call, ODD, other.widened(0, 1))
            raised(self, OddJoint, {"joint": 5}, call, other.widened(0, 1), ODD)
            raised(self, OddJoint, {"joint": 5}, call, STAR, other.widened(0, 1))


class Exchange(unittest.TestCase):

    def test_alike_boards_can_be_exchanged(self):
        rng = random.Random(590)
        for board in random_boards(590, 60):
            other = straight(cords(board))
            self.assertIs(True, alike(board, other))
            self.assertIs(True, alike(renumbered(rng, board), board))
            one, two = board, other
            for _ in range(25):
                pin = rng.randint(0, max(one.pins, 1) - 1)
                course = Course([rng.choice([
                    ("pin", pin), ("track", pin, rng.randint(0, 2)), ("merge", pin), ("drop", pin), ("turn", pin),
                    ("mirror",),
                ])])
                try:
                    one = course(one)
                except Refused as refused:
                    raised(self, Refused, {"place": 0, "deed": refused.deed}, course, two)
                else:
                    two = course(two)
                    self.assertIs(True, alike(one, two))
                if one.pins > 8:
                    one, two = one.merged(0), two.merged(0)
            wishes = cords(one)
            for _ in range(3):
                self.assertTrue(is_laid(one, wishes) and is_laid(two, wishes))
                found = list(moves(wishes))
                wishes = moved(wishes, rng.choice(found)) if found else wishes

    def test_parting_tells_boards_apart_without_any_surrounding(self):
        boards = random_boards(591, 80, pins=4)
        for one, two in zip(boards, boards[1:]):
            if one.pins == two.pins and not alike(one, two):
                found = parting(one, two)
                self.assertNotEqual(is_laid(one, found), is_laid(two, found))
