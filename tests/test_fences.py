"""Promises [40] to [44]."""

import itertools
import random
import unittest

from rimcords.boards import Board
from rimcords.errors import BadGap, BadItem, OddJoint
from rimcords.fences import cords_by_fences, fence, fence_cost, fence_table, is_fence, is_price_row, prices
from rimcords.lots import Lot
from tests.boardhelpers import EMPTY, STAR, random_board, random_boards
from tests.helpers import BIG, NO_NUMBERS, only_tuples, raised

# A track from joint 3 to itself, several tracks between pins 0 and 1, a dead end, and gaps 2 and 3 in the same land.
KNOT = Board(4, ((0, 2, 4), (5, 3, 1, 6), (12,), (), (7, 8, 9, 10), (11,), (13,)), (1, 2, 3, 4, 5, 6, 7))


def plain_prices(board, gap):
    """The least costs to all lands, found by lowering them as long as a track allows it."""
    start = board.land_at(-1 - gap)
    costs = {start: 0}
    for _ in board.lands:
        for track, width in enumerate(board.widths):
            one, other = board.land_at(2 * track), board.land_at(2 * track + 1)
            for here, there in ((one, other), (other, one)):
                if here in costs:
                    costs[there] = min(costs.get(there, costs[here] + width), costs[here] + width)
    return tuple(costs[land] for land in range(len(board.lands)))


def plain_is_fence(board, first, last, steps):
    land = board.land_at(-1 - first)
    for step in steps:
        if step not in board.lands[land]:
            return False
        land = board.land_at(step ^ 1)
    return -1 - last in board.lands[land]


class IsFence(unittest.TestCase):

    def test_star(self):
        self.assertIs(True, is_fence(STAR, 0, 1, (3,)))
        self.assertIs(True, is_fence(STAR, 0, 2, [3, 5]))
        self.assertIs(True, is_fence(STAR, 0, 2, (0, 6)))
        self.assertIs(True, is_fence(STAR, 0, 1, (3, 2, 3)))
        self.assertIs(False, is_fence(STAR, 0, 1, (2,)))
        self.assertIs(False, is_fence(STAR, 0, 2, (3,)))
        self.assertIs(False, is_fence(STAR, 0, 2, (3, 4)))
        self.assertIs(False, is_fence(STAR, 0, 1, ()))
        self.assertIs(True, is_fence(STAR, 0, 0, ()))
        self.assertIs(True, is_fence(STAR, 0, 0, (3, 2)))

    def test_gaps_in_the_same_land(self):
        board = Board(4, ((0,), (), (1,), ()), (1,))
        self.assertIs(True, is_fence(board, 0, 1, ()))
        self.assertIs(True, is_fence(board, 2, 3, []))
        self.assertIs(False, is_fence(board, 1, 2, ()))
        self.assertIs(True, is_fence(board, 1, 2, (0,)))

    def test_tracks_with_one_land_on_both_sides(self):
        board = Board(1, ((0,), (1,)), (2,))
        for steps in ((), (0,), (1,), (0, 0), (1, 0, 1, 1)):
            self.assertIs(True, is_fence(board, 0, 0, steps))

    def test_of_whatever_kind(self):
        for steps in (None, 5, "3", {3: 1}, {3}, STAR, range(3, 4), iter((3,))):
            self.assertIs(False, is_fence(STAR, 0, 1, steps))
        for end in NO_NUMBERS + (-1, -2, 8, STAR):
            self.assertIs(False, is_fence(STAR, 0, 1, (end,)))
            self.assertIs(False, is_fence(STAR, 0, 2, [3, end]))
        # True is no end, although it equals 1.
        self.assertIs(False, is_fence(Board(1, ((0,), (1,)), (2,)), 0, 0, (True,)))

    def test_bad_gaps(self):
        for gap in NO_NUMBERS + (-1, 4):
            raised(self, BadGap, {"gap": gap}, is_fence, STAR, gap, 99, None)
            raised(self, BadGap, {"gap": gap}, is_fence, STAR, 0, gap, (3,))
        raised(self, BadGap, {"gap": 1}, is_fence, EMPTY, 0, 1, ())
        self.assertIs(True, is_fence(EMPTY, 0, 0, ()))

    def test_by_the_definition(self):
        for board in random_boards(400, 15, pins=4, length=12, even=False) + [KNOT]:
            ends = range(2 * len(board.widths))
            gaps = range(max(board.pins, 1))
            for steps in itertools.chain([()], itertools.product(ends, repeat=1), itertools.product(ends, repeat=2)):
                for first, last in itertools.product(gaps, repeat=2):
                    self.assertIs(plain_is_fence(board, first, last, steps), is_fence(board, first, last, steps))


class FenceCost(unittest.TestCase):

    def test_sums(self):
        self.assertEqual(0, fence_cost(KNOT, ()))
        self.assertEqual(1 + 2 + 7, fence_cost(KNOT, (0, 3, 12)))
        self.assertEqual(3 * 5, fence_cost(KNOT, [8, 9, 8]))
        self.assertEqual(2 * BIG, fence_cost(Board(2, ((0,), (1,)), (BIG,)), (0, 1)))

    def test_no_ends(self):
        for end in NO_NUMBERS + (-1, 14):
            raised(self, BadItem, {"item": end}, fence_cost, KNOT, (0, end, 99))
        raised(self, BadItem, {"item": 0}, fence_cost, EMPTY, (0,))


class Prices(unittest.TestCase):

    def test_star(self):
        self.assertEqual((0, 1, 2, 1), prices(STAR, 0))
        self.assertEqual((1, 2, 1, 0), prices(STAR, 3))

    def test_few_pins(self):
        self.assertEqual((0,), prices(EMPTY, 0))
        self.assertEqual((0,), prices(Board(1, ((),), ()), 0))
        self.assertEqual((0,), prices(Board(3, ((), (), ()), ()), 2))
        self.assertEqual((0, 3), prices(Board(1, ((0, 1),), (3,)), 0))
        self.assertEqual((5, 0), prices(Board(2, ((0,), (1,)), (5,)), 1))

    def test_by_the_definition(self):
        for board in random_boards(41, 60, even=False) + [KNOT]:
            for gap in range(max(board.pins, 1)):
                row = prices(board, gap)
                self.assertEqual(plain_prices(board, gap), row)
                self.assertTrue(only_tuples(row))
                self.assertIs(True, is_price_row(board, row))
                self.assertEqual(0, row[board.land_at(-1 - gap)])

    def test_bad_gaps(self):
        for gap in NO_NUMBERS + (-1, 4):
            raised(self, BadGap, {"gap": gap}, prices, STAR, gap)
        raised(self, BadGap, {"gap": 1}, prices, EMPTY, 1)


class PriceRows(unittest.TestCase):

    def test_rows(self):
        self.assertIs(True, is_price_row(STAR, (0, 1, 2, 1)))
        self.assertIs(True, is_price_row(STAR, [0, 0, 0, 0]))
        self.assertIs(True, is_price_row(STAR, [-5, -4, -5, -6]))
        self.assertIs(True, is_price_row(STAR, [10 ** 30, 10 ** 30 + 1, 10 ** 30, 10 ** 30 - 1]))
        self.assertIs(False, is_price_row(STAR, (0, 2, 2, 1)))
        self.assertIs(False, is_price_row(STAR, (0, 1, 0, 2)))
        self.assertIs(False, is_price_row(STAR, (2, 1, 0, 0)))
        self.assertIs(True, is_price_row(EMPTY, (7,)))

    def test_other_lengths(self):
        for row in ((), (0,), (0, 0, 0), (0, 0, 0, 0, 0)):
            self.assertIs(False, is_price_row(STAR, row))

    def test_of_whatever_kind(self):
        for row in (None, 5, "0000", {}, {0: 0, 1: 0, 2: 0, 3: 0}, STAR, range(4)):
            self.assertIs(False, is_price_row(STAR, row))
        for number in NO_NUMBERS:
            for place in range(4):
                row = [0, 0, 0, 0]
                row[place] = number
                self.assertIs(False, is_price_row(STAR, row))

    def test_the_same_land_on_both_sides(self):
        self.assertIs(True, is_price_row(Board(1, ((0,), (1,)), (2,)), (-3,)))

    def test_rows_show_what_fences_cost(self):
        rng = random.Random(41)
        for board in random_boards(42, 30, even=False):
            table = fence_table(board)
            for _ in range(30):
                row = [rng.randint(0, 3) for _ in board.lands]
                differ = [abs(row[board.land_at(2 * t)] - row[board.land_at(2 * t + 1)]) for t in range(len(board.widths))]
                right = all(many <= width for many, width in zip(differ, board.widths))
                self.assertIs(right, is_price_row(board, row))
                if right:
                    for i, j in itertools.product(range(len(table)), repeat=2):
                        least = row[board.land_at(-1 - j)] - row[board.land_at(-1 - i)]
                        self.assertGreaterEqual(table[i][j], least)


class Fences(unittest.TestCase):

    def test_same_land(self):
        board = Board(4, ((0,), (), (1,), ()), (1,))
        self.assertEqual((), fence(board, 0, 1))
        self.assertEqual((), fence(board, 3, 2))
        self.assertEqual((), fence(board, 2, 2))
        self.assertEqual((), fence(EMPTY, 0, 0))
        self.assertEqual((0,), fence(board, 1, 2))
        self.assertEqual((1,), fence(board, 3, 0))

    def test_least_fences(self):
        for board in random_boards(43, 60, even=False) + [STAR, KNOT]:
            table = fence_table(board)
            self.assertTrue(only_tuples(table))
            self.assertEqual(max(board.pins, 1), len(table))
            for first, last in itertools.product(range(len(table)), repeat=2):
                steps = fence(board, first, last)
                self.assertTrue(only_tuples(steps))
                self.assertIs(True, is_fence(board, first, last, steps))
                self.assertEqual(table[first][last], fence_cost(board, steps))
                self.assertEqual(table[first][last], plain_prices(board, first)[board.land_at(-1 - last)])

    def test_bad_gaps(self):
        for gap in NO_NUMBERS + (-1, 4):
            raised(self, BadGap, {"gap": gap}, fence, STAR, gap, 99)
            raised(self, BadGap, {"gap": gap}, fence, STAR, 0, gap)
        raised(self, BadGap, {"gap": 1}, fence, EMPTY, 1, 0)

    def test_tables(self):
        self.assertEqual(((0, 1, 2, 1), (1, 0, 1, 2), (2, 1, 0, 1), (1, 2, 1, 0)), fence_table(STAR))
        self.assertEqual(((0,),), fence_table(EMPTY))
        self.assertEqual(((0,),), fence_table(Board(1, ((0, 1),), (3,))))
        self.assertEqual(((0, 5), (5, 0)), fence_table(Board(2, ((0,), (1,)), (5,))))

    def test_four_gaps(self):
        for board in random_boards(44, 30, even=False):
            table = fence_table(board)
            if board.pins > 0:
                for i, j, k, m in itertools.combinations_with_replacement(range(board.pins), 4):
                    across = table[i][k] + table[j][m]
                    self.assertGreaterEqual(across, table[i][j] + table[k][m])
                    self.assertGreaterEqual(across, table[i][m] + table[j][k])

    def test_great_boards(self):
        board = random_board(random.Random(45), 180, 40) * BIG
        lot = cords_by_fences(board)
        self.assertEqual(fence_table(board), lot.table)
        for gap in range(board.pins):
            self.assertEqual(lot.table[gap][0], fence_cost(board, fence(board, gap, 0)))


class CordsByFences(unittest.TestCase):

    def test_star(self):
        self.assertEqual(Lot(4, [(0, 2, 1), (1, 3, 1)]), cords_by_fences(STAR))

    def test_few_pins(self):
        self.assertEqual(Lot(0), cords_by_fences(EMPTY))
        self.assertEqual(Lot(1), cords_by_fences(Board(1, ((0, 1),), (3,))))
        self.assertEqual(Lot(2, [(0, 1, 5)]), cords_by_fences(Board(2, ((0,), (1,)), (5,))))

    def test_tables_of_even_boards(self):
        for board in random_boards(46, 60):
            self.assertEqual(fence_table(board), cords_by_fences(board).table)
        for board in random_boards(47, 40, even=False):
            self.assertEqual(fence_table(board * 2), cords_by_fences(board * 2).table)
            self.assertEqual(tuple(tuple(2 * cost for cost in row) for row in fence_table(board)),
                             fence_table(board * 2))

    def test_odd_joints(self):
        raised(self, OddJoint, {"joint": 4}, cords_by_fences, STAR.widened(2, 1))
        board = Board(1, ((0,), (1, 2), (3, 4), (5,)), (1, 2, 3))
        raised(self, OddJoint, {"joint": 1}, cords_by_fences, board)
        raised(self, OddJoint, {"joint": 2}, cords_by_fences, board.widened(0, 1))
