"""Promise [63]."""

import itertools
import random
import unittest

from rimcords.boards import Board
from rimcords.cords import cords
from rimcords.duals import distances, dual, odd_lands
from rimcords.errors import BadPins, OddLand, SharedLand
from rimcords.fencings import are_fences_laid, fences_laid
from rimcords.lots import Lot
from tests.boardhelpers import EMPTY, SHAPES, STAR, fields_of, grid_board
from tests.helpers import BIG, NO_NUMBERS, as_lists, only_tuples, plain_arc, raised
from tests.test_duals import joined_boards

PAIR = Board(2, ((0, 2), (3, 1)), (1, 3))
KINDS = (None, 5, "0", "", {}, {0: 0}, {0}, STAR, range(1), iter(()), True, 0.5)


def is_laid(board, lot, fences):
    """Whether the fences tell the distances, by the definition, for a lot and fences of the right form."""
    crossed = [0] * len(board.widths)
    for (i, j, n), item in zip(lot.cords, fences):
        if len(item) != n:
            return False
        for steps in item:
            land = board.land_at(-1 - i)
            for end in steps:
                if end not in board.lands[land]:
                    return False
                crossed[end // 2] += 1
                land = board.land_at(end ^ 1)
            if land != board.land_at(-1 - j):
                return False
    rows = distances(board)
    for a, b in itertools.combinations(range(board.pins), 2):
        arcs = [(n, plain_arc(board.pins, i, j)) for i, j, n in lot.cords]
        if sum(n for n, arc in arcs if (a in arc) != (b in arc)) != rows[a][b]:
            return False
    return all(many <= width for many, width in zip(crossed, board.widths))


class FencesLaid(unittest.TestCase):

    def laid(self, board):
        before = fields_of(board)
        found = fences_laid(board)
        self.assertEqual(before, fields_of(board))
        self.assertIs(tuple, found.__class__)
        lot, fences = found
        self.assertIs(Lot, lot.__class__)
        self.assertTrue(only_tuples(fences))
        self.assertEqual(cords(dual(board)), lot)
        self.assertEqual(len(lot.cords), len(fences))
        self.assertTrue(is_laid(board, lot, fences))
        self.assertIs(True, are_fences_laid(board, lot, fences))
        self.assertIs(True, are_fences_laid(board, lot, as_lists(fences)))
        return lot, fences

    def test_star(self):
        lot, fences = self.laid(STAR)
        self.assertEqual(Lot(4, [(0, 1, 1), (1, 2, 1), (2, 3, 1), (0, 3, 1)]), lot)
        self.assertEqual((((3,),), ((0,),), ((5,),), ((7,),)), fences)

    def test_few_pins(self):
        self.assertEqual((Lot(1), ()), self.laid(Board(1, ((),), ())))
        self.assertEqual((Lot(1), ()), self.laid(Board(1, ((0,), (1,)), (3,))))
        self.assertEqual((Lot(1), ()), self.laid(Board(1, ((0, 1),), (4,))))
        self.assertEqual((Lot(2, [(0, 1, 3)]), (((0,),) * 3,)), self.laid(Board(2, ((0,), (1,)), (3,))))
        # Two tracks side by side: the shorter one tells the distance.
        self.assertEqual((Lot(2, [(0, 1, 1)]), (((0, 2),),)), self.laid(PAIR))

    def test_many_boards(self):
        laid = 0
        for board in joined_boards(631, 200):
            for other in (board, board * 2, board * 3, dual(board)):
                if not odd_lands(other):
                    laid += 1
                    self.laid(other)
        self.assertGreater(laid, 200)

    def test_duals_of_even_boards(self):
        for board in joined_boards(632, 150, even=True):
            if not board.odd_joints():
                self.laid(dual(board))

    def test_great_boards(self):
        rng = random.Random(633)
        for rows, columns, widths in ((3, 5, 5), (4, 4, 3), (1, 19, 6)):
            self.laid(dual(grid_board(rng, rows, columns, widths)))
            self.laid(grid_board(rng, rows, columns, 3) * 2)

    def test_errors_in_order(self):
        raised(self, BadPins, {"pins": 0}, fences_laid, EMPTY)
        raised(self, SharedLand, {"first": 0, "last": 1}, fences_laid, Board(2, ((), ()), ()))
        raised(self, SharedLand, {"first": 0, "last": 1}, fences_laid, Board(2, ((0, 1), ()), (1,)))
        raised(self, OddLand, {"land": 1}, fences_laid, Board(1, ((0, 1),), (1,)))
        raised(self, OddLand, {"land": 2}, fences_laid, Board(2, ((0, 2), (3, 1)), (1, 2)))
        board = Board(1, ((0, 1, 2, 3, 4, 5),), (2, 3, 5))
        raised(self, OddLand, {"land": odd_lands(board)[0]}, fences_laid, board)
        self.assertEqual(2, len(odd_lands(board)))


class AreFencesLaid(unittest.TestCase):

    def test_the_empty_board(self):
        self.assertIs(True, are_fences_laid(EMPTY, Lot(1), ()))
        self.assertIs(True, are_fences_laid(EMPTY, Lot(1), []))
        self.assertIs(False, are_fences_laid(EMPTY, Lot(0), ()))
        self.assertIs(False, are_fences_laid(EMPTY, Lot(1), ((),)))
        self.assertIs(False, are_fences_laid(EMPTY, Lot(2, [(0, 1, 1)]), (((),),)))

    def test_star(self):
        lot = Lot(4, [(0, 1, 1), (1, 2, 1), (2, 3, 1), (0, 3, 1)])
        fences = [[[3]], [[0]], [[5]], [[7]]]
        self.assertIs(True, are_fences_laid(STAR, lot, fences))
        for place, item in enumerate(([], [[2]], [[3], [3]], [[3, 2, 3]], [[]], [3], [[3, 3]], [(5,)])):
            self.assertIs(False, are_fences_laid(STAR, lot, [item] + fences[1:]), place)
        self.assertIs(False, are_fences_laid(STAR, lot, fences[:3]))
        self.assertIs(False, are_fences_laid(STAR, lot, fences + [[]]))
        self.assertIs(False, are_fences_laid(STAR, lot, [fences[0], fences[2], fences[1], fences[3]]))
        # Each two fences instead of one need wider tracks, and then the distances are greater.
        self.assertIs(False, are_fences_laid(STAR * 2, lot, fences))
        self.assertIs(True, are_fences_laid(STAR * 2, lot * 2, [item * 2 for item in fences]))
        self.assertIs(False, are_fences_laid(STAR, lot * 2, [item * 2 for item in fences]))

    def test_a_fence_that_goes_the_other_way(self):
        lot, fences = fences_laid(PAIR)
        self.assertEqual((((0, 2),),), fences)
        self.assertIs(True, are_fences_laid(PAIR, lot, fences))
        self.assertIs(False, are_fences_laid(PAIR, lot, (((3, 1),),)))
        self.assertIs(False, are_fences_laid(PAIR, lot, (((2, 0),),)))
        self.assertIs(False, are_fences_laid(PAIR, lot, (((0,),),)))

    def test_widths(self):
        # A fence that comes back crosses a track three times.
        lot = Lot(2, [(0, 1, 1)])
        self.assertIs(True, are_fences_laid(PAIR, lot, (((0, 2, 3, 2),),)))
        self.assertIs(False, are_fences_laid(PAIR, lot, (((0, 1, 0, 2),),)))
        self.assertIs(False, are_fences_laid(PAIR, lot, (((0, 2, 3, 2, 3, 2),),)))

    def test_distances(self):
        board = Board(2, ((0, 2), (3, 1)), (2, 2))
        one = (0, 2)
        self.assertIs(True, are_fences_laid(board, Lot(2, [(0, 1, 2)]), ((one, one),)))
        self.assertIs(False, are_fences_laid(board, Lot(2, [(0, 1, 1)]), ((one,),)))
        self.assertIs(False, are_fences_laid(board, Lot(2), ()))

    def test_odd_lands_are_no_matter(self):
        # Without a promise that there are such fences, there may be some.
        self.assertIs(True, are_fences_laid(Board(2, ((0, 2), (3, 1)), (1, 2)), Lot(2, [(0, 1, 1)]), (((0, 2),),)))
        self.assertIs(True, are_fences_laid(Board(1, ((0, 1),), (3,)), Lot(1), ()))

    def test_pins_without_a_way_between_them(self):
        self.assertIs(False, are_fences_laid(Board(2, ((), ()), ()), Lot(2), ()))
        self.assertIs(False, are_fences_laid(Board(2, ((), ()), ()), Lot(2, [(0, 1, 1)]), (((),),)))
        self.assertIs(False, are_fences_laid(Board(4, ((0,), (2,), (3,), (1,)), (2, 3)), Lot(4), ()))

    def test_other_rims(self):
        for pins in (0, 3, 5):
            self.assertIs(False, are_fences_laid(STAR, Lot(pins), ()))
        self.assertIs(False, are_fences_laid(Board(1, ((),), ()), Lot(0), ()))

    def test_of_whatever_kind(self):
        lot, fences = fences_laid(STAR)
        for thing in KINDS:
            self.assertIs(False, are_fences_laid(STAR, thing, fences))
            self.assertIs(False, are_fences_laid(STAR, thing, thing))
            for wrong in (thing, (thing,) + fences[1:], ((thing,),) + fences[1:]):
                self.assertIs(False, are_fences_laid(STAR, lot, wrong))
        for number in NO_NUMBERS + (-1, 8):
            self.assertIs(False, are_fences_laid(STAR, lot, (((number,),),) + fences[1:]))
        self.assertIs(False, are_fences_laid(STAR, ((0, 1, 1), (1, 2, 1), (2, 3, 1), (0, 3, 1)), fences))
        for board in SHAPES:
            for thing in KINDS + ((), Lot(board.pins), Lot(1)):
                self.assertIn(are_fences_laid(board, Lot(max(board.pins, 1)), thing), (True, False))
                self.assertIs(False, are_fences_laid(board, thing, None))

    def test_small_changes_are_noticed(self):
        rng = random.Random(634)
        for board in joined_boards(634, 100):
            lot, fences = fences_laid(board * 2)
            if fences:
                changed = as_lists(fences)
                item = rng.choice(changed)
                steps = rng.choice(item)
                at = rng.randrange(len(steps))
                kept = list(steps)
                for other in (kept[::-1], kept[:at] + kept[at + 1:], kept[:at] + [kept[at] ^ 1] + kept[at + 1:],
                              kept[:at + 1] + [kept[at] ^ 1, kept[at]] + kept[at + 1:]):
                    steps[:] = other
                    self.assertIs(is_laid(board * 2, lot, changed), are_fences_laid(board * 2, lot, changed))
                steps[:] = kept
                item.append(kept)
                self.assertIs(False, are_fences_laid(board * 2, lot, changed))

    def test_great_numbers(self):
        board = Board(2, ((0,), (1,)), (BIG,))
        self.assertIs(False, are_fences_laid(board, Lot(2, [(0, 1, BIG)]), (((0,), (0,)),)))
        self.assertIs(False, are_fences_laid(board, Lot(2, [(0, 1, 2)]), (((0,), (0,)),)))
