"""Promises [38] and [39]: the deeds of [23] to [28], `turned` and `mirrored` on boards."""

import random
import unittest

from rimcords.boards import Board
from rimcords.errors import BadGap, BadNumber, BadPin, NoPair, OddPin
from rimcords.fences import cords_by_fences
from rimcords.lots import Lot
from tests.boardhelpers import EMPTY, STAR, fields_of, random_boards, renumbered
from tests.helpers import BIG, NO_NUMBERS, raised

# Three pins; pin 0 and pin 1 at the inner joint 3, pin 2 with a track to itself.
BOARD = Board(3, ((0,), (2,), (4, 5), (3, 1)), (2, 4, 3))


class Wrong(unittest.TestCase):

    def test_gaps(self):
        for board in (BOARD, EMPTY, Board(1, ((),), ())):
            for gap in NO_NUMBERS + (-1, max(board.pins, 1)):
                raised(self, BadGap, {"gap": gap}, board.opened, gap)
                raised(self, BadGap, {"gap": gap}, board.linked, gap)
                raised(self, BadGap, {"gap": gap}, board.linked, gap, 0)
                raised(self, BadGap, {"gap": gap}, board.merged, gap)
                if gap is not None:
                    raised(self, BadGap, {"gap": gap}, board.beside, STAR, gap=gap)

    def test_pins(self):
        for pin in NO_NUMBERS + (-1, 3):
            raised(self, BadPin, {"pin": pin}, BOARD.dropped, pin)
        raised(self, BadPin, {"pin": 0}, EMPTY.dropped, 0)

    def test_too_few_pins(self):
        for pins, board in ((0, EMPTY), (1, Board(1, ((0, 1),), (1,)))):
            raised(self, NoPair, {"pins": pins}, board.linked, 0)
            raised(self, NoPair, {"pins": pins}, board.linked, 0, 0)
            raised(self, NoPair, {"pins": pins}, board.merged, 0)

    def test_numbers(self):
        for number in NO_NUMBERS + (0, -1):
            raised(self, BadNumber, {"number": number}, BOARD.linked, 1, number)
            raised(self, BadNumber, {"number": number}, BOARD.linked, 1, many=number)

    def test_odd_pins(self):
        for pin in range(4):
            raised(self, OddPin, {"pin": pin}, STAR.dropped, pin)

    def test_gap_stands_behind_a_star(self):
        with self.assertRaises(TypeError):
            BOARD.beside(STAR, 0)


class Deeds(unittest.TestCase):

    def test_opened(self):
        self.assertEqual((4, ((0,), (), (2,), (4, 5), (3, 1)), (2, 4, 3)), fields_of(BOARD.opened(0)))
        self.assertEqual((4, ((0,), (2,), (), (4, 5), (3, 1)), (2, 4, 3)), fields_of(BOARD.opened(1)))
        self.assertEqual((4, ((0,), (2,), (4, 5), (), (3, 1)), (2, 4, 3)), fields_of(BOARD.opened(2)))
        self.assertEqual((1, ((),), ()), fields_of(EMPTY.opened(0)))
        self.assertEqual((2, ((0, 1), ()), (1,)), fields_of(Board(1, ((0, 1),), (1,)).opened(0)))

    def test_linked(self):
        self.assertEqual((3, ((6, 0), (2, 7), (4, 5), (3, 1)), (2, 4, 3, 1)), fields_of(BOARD.linked(0)))
        self.assertEqual((3, ((0,), (6, 2), (4, 5, 7), (3, 1)), (2, 4, 3, 5)), fields_of(BOARD.linked(1, 5)))
        self.assertEqual((3, ((0, 7), (2,), (6, 4, 5), (3, 1)), (2, 4, 3, BIG)), fields_of(BOARD.linked(2, many=BIG)))
        two = Board(2, ((), ()), ())
        self.assertEqual((2, ((0,), (1,)), (1,)), fields_of(two.linked(0)))
        self.assertEqual((2, ((1,), (0,)), (1,)), fields_of(two.linked(1)))

    def test_merged(self):
        self.assertEqual((2, ((2, 0), (4, 5), (3, 1)), (2, 4, 3)), fields_of(BOARD.merged(0)))
        self.assertEqual((2, ((0,), (4, 5, 2), (3, 1)), (2, 4, 3)), fields_of(BOARD.merged(1)))
        self.assertEqual((2, ((0, 4, 5), (2,), (3, 1)), (2, 4, 3)), fields_of(BOARD.merged(2)))

    def test_merged_two_pins(self):
        two = Board(2, ((0, 2), (3, 1)), (1, 1))
        self.assertEqual((1, ((3, 1, 0, 2),), (1, 1)), fields_of(two.merged(0)))
        self.assertEqual((1, ((0, 2, 3, 1),), (1, 1)), fields_of(two.merged(1)))

    def test_dropped(self):
        self.assertEqual((2, ((2,), (4, 5), (3, 1), (0,)), (2, 4, 3)), fields_of(BOARD.dropped(0)))
        self.assertEqual((2, ((0,), (4, 5), (3, 1), (2,)), (2, 4, 3)), fields_of(BOARD.dropped(1)))

    def test_dropped_away(self):
        self.assertEqual((2, ((0,), (2,), (3, 1)), (2, 4)), fields_of(BOARD.dropped(2)))
        self.assertEqual((1, ((0, 1),), (3,)), fields_of(BOARD.dropped(0).dropped(0)))
        self.assertEqual((0, (), ()), fields_of(BOARD.dropped(0).dropped(0).dropped(0)))
        self.assertEqual((0, (), ()), fields_of(Board(1, ((),), ()).dropped(0)))

    def test_dropped_away_with_what_hangs_on_it(self):
        # Pin 0 has the joint 4 with a loop on it, numbered between tracks and joints that remain.
        board = Board(3, ((2, 7), (0,), (8,), (1, 9), (3, 4, 5, 6)), (2, 2, 4, 2, 2))
        self.assertEqual((2, ((0,), (2,), (1, 3)), (2, 2)), fields_of(board.dropped(0)))

    def test_beside(self):
        other = Board(1, ((0,), (1,)), (8,))
        self.assertEqual((4, ((0,), (6,), (2,), (4, 5), (3, 1), (7,)), (2, 4, 3, 8)),
                         fields_of(BOARD.beside(other, gap=0)))
        self.assertEqual((4, ((0,), (2,), (6,), (4, 5), (3, 1), (7,)), (2, 4, 3, 8)),
                         fields_of(BOARD.beside(other, gap=1)))
        last = (4, ((0,), (2,), (4, 5), (6,), (3, 1), (7,)), (2, 4, 3, 8))
        self.assertEqual(last, fields_of(BOARD.beside(other, gap=2)))
        self.assertEqual(last, fields_of(BOARD.beside(other)))
        self.assertEqual(last, fields_of(BOARD.beside(other, gap=None)))

    def test_beside_the_empty_board(self):
        self.assertEqual(fields_of(BOARD), fields_of(EMPTY.beside(BOARD)))
        self.assertEqual(fields_of(BOARD), fields_of(EMPTY.beside(BOARD, gap=0)))
        self.assertEqual(fields_of(BOARD), fields_of(BOARD.beside(EMPTY, gap=1)))
        raised(self, BadGap, {"gap": 1}, EMPTY.beside, BOARD, gap=1)

    def test_turned(self):
        self.assertEqual((3, ((4, 5), (0,), (2,), (3, 1)), (2, 4, 3)), fields_of(BOARD.turned(1)))
        self.assertEqual((3, ((2,), (4, 5), (0,), (3, 1)), (2, 4, 3)), fields_of(BOARD.turned(-1)))
        self.assertEqual(fields_of(BOARD), fields_of(BOARD.turned(0)))
        self.assertEqual(fields_of(BOARD), fields_of(BOARD.turned(-3)))
        self.assertEqual(fields_of(BOARD.turned(1)), fields_of(BOARD.turned(10 ** 18)))
        self.assertEqual(fields_of(BOARD.turned(2)), fields_of(BOARD.turned(-10 ** 18)))
        self.assertEqual(fields_of(EMPTY), fields_of(EMPTY.turned(5)))

    def test_mirrored(self):
        self.assertEqual((3, ((5, 4), (2,), (0,), (1, 3)), (2, 4, 3)), fields_of(BOARD.mirrored()))
        self.assertEqual(fields_of(EMPTY), fields_of(EMPTY.mirrored()))
        self.assertEqual(fields_of(BOARD), fields_of(BOARD.mirrored().mirrored()))

    def test_boards_are_not_changed(self):
        fields = fields_of(BOARD)
        BOARD.opened(0), BOARD.linked(0), BOARD.merged(0), BOARD.dropped(0), BOARD.beside(STAR), BOARD.turned(1)
        BOARD.mirrored(), BOARD.cut(0), BOARD.widened(0, 1), BOARD * 2
        self.assertEqual(fields, fields_of(BOARD))


def deeds_of(board):
    """Each deed that can be done on a board or its lot, as a function."""
    other = STAR if board.__class__ is Board else Lot(4, [(0, 2, 1), (1, 3, 1)])
    deeds = [lambda x: x.turned(2), lambda x: x.turned(-1), lambda x: x.mirrored()]
    for gap in range(max(board.pins, 1)):
        deeds.append(lambda x, gap=gap: x.opened(gap))
        deeds.append(lambda x, gap=gap: x.beside(other, gap=gap))
        if board.pins > 1:
            deeds.append(lambda x, gap=gap: x.linked(gap, 3))
            deeds.append(lambda x, gap=gap: x.merged(gap))
    for pin in range(board.pins):
        if board.ends(pin) % 2 == 0:
            deeds.append(lambda x, pin=pin: x.dropped(pin))
    return deeds


class Together(unittest.TestCase):

    def test_equal_boards_stay_equal(self):
        rng = random.Random(39)
        for board in random_boards(39, 40, even=False) + [BOARD, STAR]:
            other = renumbered(rng, board)
            for deed in deeds_of(board):
                self.assertEqual(deed(board), deed(other))

    def test_even_boards_stay_even(self):
        for board in random_boards(40, 40) + [BOARD, STAR]:
            for deed in deeds_of(board):
                self.assertEqual((), deed(board).odd_joints())

    def test_lots_of_boards_go_along(self):
        # What the deeds do to the least costs of fences is what they do to lots.
        for board in random_boards(41, 60) + [BOARD, STAR, EMPTY]:
            lot = cords_by_fences(board)
            self.assertEqual([board.ends(pin) % 2 for pin in range(board.pins)],
                             [lot.ends(pin) % 2 for pin in range(lot.pins)])
            for deed, same in zip(deeds_of(board), deeds_of(lot)):
                self.assertEqual(same(lot), cords_by_fences(deed(board)))
