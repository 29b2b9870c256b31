"""Promise [50]."""

import itertools
import random
import unittest

from rimcords.boards import Board
from rimcords.cords import cords
from rimcords.lots import Lot
from rimcords.moves import crossings
from rimcords.rims import crosses
from rimcords.straights import straight
from tests.boardhelpers import fields_of
from tests.helpers import BIG, all_lots, full_lot, random_lot


class Straight(unittest.TestCase):

    def drawn(self, lot):
        board = straight(lot)
        self.assertIs(Board, board.__class__)
        self.assertEqual(lot.pins, board.pins)
        self.assertEqual(lot, cords(board))
        inner = board.turns[board.pins:]
        pairs = itertools.combinations(lot.cords, 2)
        self.assertEqual(sum(crosses(a, b, c, d) for (a, b, _), (c, d, _) in pairs), len(inner))
        self.assertTrue(all(len(turn) == 4 for turn in inner))
        self.assertEqual(crossings(Lot(lot.pins, [(a, b, 1) for a, b, _ in lot.cords])), len(inner))
        return board

    def test_lots_without_cords(self):
        self.assertEqual((0, (), ()), fields_of(self.drawn(Lot(0))))
        self.assertEqual((1, ((),), ()), fields_of(self.drawn(Lot(1))))
        self.assertEqual((3, ((), (), ()), ()), fields_of(self.drawn(Lot(3))))

    def test_few_cords(self):
        self.assertEqual(Board(2, ((0,), (1,)), (5,)), self.drawn(Lot(2, [(0, 1, 5)])))
        self.assertEqual(Board(3, ((0, 4), (2, 1), (5, 3)), (1, 3, 2)),
                         self.drawn(Lot(3, [(0, 1, 1), (0, 2, 2), (1, 2, 3)])))
        self.assertEqual(Board(4, ((0,), (2,), (4,), (6,), (1, 3, 5, 7)), (2, 3, 2, 3)),
                         self.drawn(Lot(4, [(0, 2, 2), (1, 3, 3)])))

    def test_three_cords_that_cross(self):
        self.assertEqual(3, len(self.drawn(Lot(6, [(0, 3, 1), (1, 4, 2), (2, 5, 3)])).turns) - 6)

    def test_all_small_lots(self):
        for pins, most in ((2, 3), (3, 3), (4, 3), (5, 3)):
            for lot in all_lots(pins, most):
                self.drawn(lot)

    def test_all_pairs_at_once(self):
        for pins in range(9):
            for many in (1, BIG):
                self.drawn(full_lot(pins, many))

    def test_random_lots(self):
        rng = random.Random(50)
        for _ in range(300):
            self.drawn(random_lot(rng, rng.randint(2, 14), rng.randint(0, 15), rng.choice((1, 7, BIG))))

    def test_great_lots(self):
        rng = random.Random(51)
        fan = [(0, pin, rng.randint(1, BIG)) for pin in range(1, 40)]
        self.drawn(Lot(40, fan))
        self.drawn(Lot(40, fan + [(1, 39, BIG)]))
        self.drawn(Lot(40, fan + [(pin, pin + 2, BIG) for pin in range(1, 38)]))
        self.drawn(Lot(40, [(pin, 39 - pin, BIG) for pin in range(20)] + [(9, 30, 1), (5, 20, BIG)]))
