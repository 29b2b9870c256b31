"""Promise [65], and what [66] and [67] say of the board that a row draws."""

import random
import unittest

from rimcords.boards import Board
from rimcords.cords import cords
from rimcords.laying import lay
from rimcords.moves import crossings
from rimcords.rowboards import board_of
from rimcords.rows import Row
from tests.boardhelpers import EMPTY, STAR
from tests.rowhelpers import plain_board, random_row

CROSS = ("cross", 0)


def crossed(board, pin):
    """The board when the strands at two neighbouring pins cross behind these, put together by deeds."""
    joint = board.turned(-pin).merged(0)
    wide = joint.opened(joint.pins - 1).opened(0)
    return wide.linked(0).linked(wide.pins - 1).dropped(0).turned(pin + 1)


class BoardOf(unittest.TestCase):

    def test_without_letters(self):
        self.assertEqual(EMPTY, board_of(Row(0)))
        self.assertEqual(Board(2, ((0,), (1,)), (1,)), board_of(Row(1)))
        self.assertEqual(Board(6, ((0,), (2,), (4,), (5,), (3,), (1,)), (1, 1, 1)), board_of(Row(3)))

    def test_one_letter(self):
        self.assertEqual(STAR, board_of(Row(2, [CROSS])))
        self.assertEqual(Board(2, ((0,), (1,)), (1,)), board_of(Row(2, [("cap", 0)])))
        self.assertEqual(Board(2, ((0,), (1,)), (1,)), board_of(Row(0, [("cup", 0)])))
        # Top lanes are pins 0 to 2, the one bottom lane is pin 3.
        self.assertEqual(Board(4, ((0,), (2,), (3,), (1,)), (1, 1)), board_of(Row(3, [("cap", 1)])))
        self.assertEqual(Board(4, ((0,), (1,), (2,), (3,)), (1, 1)), board_of(Row(3, [("cap", 0)])))
        # The bottom lanes 0 to 2 are the pins 3, 2 and 1.
        self.assertEqual(Board(4, ((0,), (2,), (3,), (1,)), (1, 1)), board_of(Row(1, [("cup", 1)])))
        self.assertEqual(Board(4, ((0,), (1,), (2,), (3,)), (1, 1)), board_of(Row(1, [("cup", 0)])))

    def test_strands_that_cross_twice(self):
        # Two joints with two tracks between them.
        due = Board(4, ((0,), (2,), (9,), (11,), (1, 3, 6, 4), (5, 7, 8, 10)), (1,) * 6)
        self.assertEqual(due, board_of(Row(2, [CROSS, CROSS])))

    def test_strands_that_cross_themselves(self):
        loop = Board(2, ((0,), (2,), (1, 3, 4, 5)), (1, 1, 1))
        self.assertEqual(loop, board_of(Row(2, [CROSS, ("cap", 0)])))
        self.assertEqual(loop, board_of(Row(0, [("cup", 0), CROSS])))

    def test_closed_strands(self):
        self.assertEqual(EMPTY, board_of(Row(0, [("cup", 0), ("cap", 0)])))
        self.assertEqual(board_of(Row(2)), board_of(Row(2, [("cup", 1), ("cap", 1)])))
        self.assertEqual(board_of(Row(1)), board_of(Row(1, [("cup", 0), ("cup", 1), ("cap", 2), ("cap", 0)])))

    def test_what_is_not_joined_to_a_pin(self):
        eight = [("cup", 0), CROSS, ("cap", 0)]
        self.assertEqual(EMPTY, board_of(Row(0, eight)))
        rings = [("cup", 0), ("cup", 1), ("cross", 0), ("cross", 0), ("cap", 1), ("cap", 0)]
        self.assertEqual(EMPTY, board_of(Row(0, rings)))
        self.assertEqual(board_of(Row(3)), board_of(Row(3, Row(0, rings).shifted(2, 1).letters)))

    def test_closed_strands_that_cross_others(self):
        # A ring that crosses the strand of lane 0 on its way there and on its way back.
        row = Row(1, [("cup", 1), CROSS, CROSS, ("cap", 1)])
        due = Board(2, ((0,), (9,), (1, 2, 4, 6), (7, 5, 3, 8)), (1,) * 5)
        self.assertEqual(due, board_of(row))

    def test_rings_that_hang_at_others(self):
        # The second ring crosses only the first one, which crosses the strand of lane 0.
        letters = [("cup", 1), ("cup", 3), ("cross", 0), ("cross", 2), ("cross", 2), ("cross", 0), ("cap", 3), ("cap", 1)]
        board = board_of(Row(1, letters))
        self.assertEqual(6, len(board.turns))
        self.assertEqual(plain_board(Row(1, letters)), board)

    def test_the_form_of_the_board(self):
        rng = random.Random(650)
        for _ in range(400):
            row = random_row(rng, rng.randint(0, 8), rng.randint(0, 40))
            board = board_of(row)
            self.assertIs(Board, board.__class__)
            self.assertEqual(row.top + row.bottom, board.pins)
            self.assertEqual({1}, set(board.widths) | {1})
            self.assertEqual([1] * board.pins, [len(turn) for turn in board.turns[:board.pins]])
            inner = board.turns[board.pins:]
            self.assertEqual([4] * len(inner), [len(turn) for turn in inner])
            self.assertLessEqual(len(inner), row.crossings())
            self.assertEqual((), board.odd_joints())
            self.assertEqual(plain_board(row), board)

    def test_the_lot_of_the_board(self):
        rng = random.Random(651)
        for _ in range(300):
            row = random_row(rng, rng.randint(0, 8), rng.randint(0, 30))
            self.assertEqual(row.pairing, cords(board_of(row)))
            self.assertGreaterEqual(len(board_of(row).turns) - row.top - row.bottom, crossings(row.pairing))

    def test_flipped(self):
        rng = random.Random(652)
        for _ in range(200):
            row = random_row(rng, rng.randint(0, 6), rng.randint(0, 25))
            self.assertEqual(board_of(row).mirrored(), board_of(row.flipped()))

    def test_crosses_and_cups_by_deeds(self):
        rng = random.Random(653)
        for _ in range(100):
            row = random_row(rng, rng.randint(0, 6), rng.randint(0, 15), words=("cross", "cross", "cup"))
            board = board_of(Row(row.top))
            for lanes, (word, lane) in zip(row.lanes, row.letters):
                if word == "cross":
                    board = crossed(board, row.top + lanes - 2 - lane)
                else:
                    behind = row.top + lanes - lane
                    cup = Board(2, ((0,), (1,)), (1,))
                    board = cup if lanes + row.top == 0 else board.beside(cup, gap=(behind - 1) % board.pins)
                    if behind == 0:
                        board = board.turned(2)
            self.assertEqual(board, board_of(row))

    def test_shifted_rows(self):
        rng = random.Random(654)
        for _ in range(60):
            row = random_row(rng, rng.randint(0, 5), 12)
            due = board_of(row)
            for _ in range(2):
                # One more lane on the left goes from the first pin to the last one.
                row = row.shifted(1, 0)
                strand = Board(2, ((0,), (1,)), (1,))
                due = due.beside(strand).turned(1)
            self.assertEqual(due, board_of(row))

    def test_wires_on_it(self):
        row = Row(4, [("cross", 1), ("cross", 0), ("cross", 2), ("cross", 1)])
        wires = lay(board_of(row), row.pairing)
        self.assertEqual([1] * 4, [len(item) for item in wires])

    def test_great_rows(self):
        rng = random.Random(655)
        row = random_row(rng, 20, 70, 20, ("cross",))
        self.assertEqual(plain_board(row), board_of(row))
        self.assertEqual(110, len(board_of(row).turns))
        row = random_row(rng, 24, 300, 24, ("cup", "cap"))
        self.assertEqual(plain_board(row), board_of(row))
