"""Promises [53] to [55]."""

import itertools
import random
import unittest

from rimcords.boards import Board
from rimcords.cords import cords
from rimcords.errors import Barred, OddEnds, OddJoint, UnlikePins
from rimcords.fences import fence, fence_cost, fence_table
from rimcords.laying import lay, lay_halves, own_wires
from rimcords.lots import Lot
from rimcords.moves import moved, moves
from rimcords.straights import straight
from rimcords.wires import are_wires
from tests.boardhelpers import EMPTY, SHAPES, STAR, fields_of, grid_board, random_boards, renumbered, ring_board
from tests.helpers import all_lots, only_tuples, plain_table, raised, random_lot

# A track of width 1 to an inner joint: no even board.
ODD = STAR.widened(2, 1)


def first_bar(held, wished):
    """The fields of Barred for two tables, or None."""
    for i, j in itertools.combinations(range(len(held)), 2):
        if wished[i][j] > held[i][j]:
            return {"first": i, "last": j, "held": held[i][j], "wished": wished[i][j]}
    return None


class Laying(unittest.TestCase):

    def wires(self, board, wishes, wires):
        """Checks the wires, also without the help of are_wires."""
        self.assertTrue(only_tuples(wires))
        self.assertEqual([n for _, _, n in wishes.cords], [len(item) for item in wires])
        steps = [0] * len(board.widths)
        for (a, b, _), item in zip(wishes.cords, wires):
            for wire in item:
                self.assertEqual(a, board.joint_of(wire[0]))
                self.assertEqual(b, board.joint_of(wire[-1] ^ 1))
                for one, other in zip(wire, wire[1:]):
                    self.assertEqual(board.joint_of(one ^ 1), board.joint_of(other))
                for end in wire:
                    steps[end // 2] += 1
        self.assertTrue(all(many <= width for many, width in zip(steps, board.widths)))
        self.assertIs(True, are_wires(board, wishes, wires))

    def lowered(self, rng, lot, most):
        """A lot that fits, by some moves."""
        for _ in range(rng.randint(0, most)):
            found = list(moves(lot))
            if found:
                lot = moved(lot, rng.choice(found))
        return lot


class OwnWires(Laying):

    def test_star(self):
        self.assertEqual((((0, 5),), ((2, 7),)), own_wires(STAR))

    def test_tracks_between_pins_are_wires(self):
        self.assertEqual((((0,), (0,), (0,)),), own_wires(Board(2, ((0,), (1,)), (3,))))
        self.assertEqual((((1,), (1,)),), own_wires(Board(2, ((1,), (0,)), (2,))))

    def test_without_cords(self):
        for board in SHAPES[:8]:
            self.assertEqual((), own_wires(board))

    def test_many_boards(self):
        rng = random.Random(530)
        for board in (*random_boards(530, 200, pins=9, length=60), *SHAPES):
            self.wires(board, cords(board), own_wires(board))
            again = renumbered(rng, board)
            self.wires(again, cords(again), own_wires(again))
            for other in (board.mirrored(), board.turned(1), board * 3):
                self.wires(other, cords(other), own_wires(other))

    def test_boards_with_many_loops(self):
        board = Board(2, ((0, 2, 3, 4), (6, 1), (5, 8, 9, 7, 10, 12, 13, 11)), (2, 3, 2, 4, 5, 6, 7))
        self.wires(board, cords(board), own_wires(board))
        self.wires(board * 7, cords(board * 7), own_wires(board * 7))

    def test_straight_boards(self):
        rng = random.Random(531)
        for _ in range(60):
            lot = random_lot(rng, rng.randint(2, 12), rng.randint(0, 12), 9)
            board = straight(lot)
            self.wires(board, lot, own_wires(board))

    def test_great_boards(self):
        rng = random.Random(532)
        for rows, columns, widths in ((4, 10, 5), (6, 6, 5), (1, 19, 8), (2, 5, 20)):
            board = grid_board(rng, rows, columns, widths)
            self.assertLess(300, sum(board.widths))
            self.wires(board, cords(board), own_wires(board))
        self.wires(STAR * 150, cords(STAR * 150), own_wires(STAR * 150))
        self.wires(ring_board(40) * 5, cords(ring_board(40) * 5), own_wires(ring_board(40) * 5))

    def test_the_board_stays(self):
        before = fields_of(STAR)
        own_wires(STAR)
        self.assertEqual(before, fields_of(STAR))

    def test_odd_joints(self):
        raised(self, OddJoint, {"joint": 4}, own_wires, ODD)
        board = Board(1, ((0,), (1, 2), (3, 4), (5,)), (1, 2, 3))
        raised(self, OddJoint, {"joint": 1}, own_wires, board)
        raised(self, OddJoint, {"joint": 2}, own_wires, board.widened(0, 1))


class Lay(Laying):

    def checked(self, board, wishes):
        """Checks what `lay` answers, by the definition; tells whether there are wires."""
        odds = tuple(pin for pin in range(board.pins) if (board.ends(pin) - wishes.ends(pin)) % 2 == 1)
        bar = first_bar(fence_table(board), plain_table(wishes))
        if odds:
            raised(self, OddEnds, {"pins": odds}, lay, board, wishes)
        elif bar:
            raised(self, Barred, bar, lay, board, wishes)
            steps = fence(board, bar["first"], bar["last"])
            self.assertLess(fence_cost(board, steps), bar["wished"])
        else:
            self.wires(board, wishes, lay(board, wishes))
        return not odds and not bar

    def test_example_of_the_document(self):
        error = raised(self, Barred, {"first": 0, "last": 1, "held": 1, "wished": 3},
                       lay, Board(2, ((0,), (1,)), (1,)), Lot(2, [(0, 1, 3)]))
        self.assertIsInstance(error, ValueError)

    def test_all_small_wishes(self):
        boards = [board for board in (*random_boards(540, 60, pins=5, length=25), *SHAPES) if board.pins <= 5]
        laid = 0
        for board in boards:
            for wishes in all_lots(board.pins, 4 if board.pins < 4 else 3 if board.pins < 5 else 2):
                laid += self.checked(board, wishes)
                laid += self.checked(board * 2, wishes)
        self.assertGreater(laid, 300)

    def test_wishes_that_fit(self):
        rng = random.Random(541)
        for board in (*random_boards(541, 150, pins=9, length=60), *SHAPES):
            wishes = self.lowered(rng, cords(board), 8)
            self.assertTrue(self.checked(board, wishes))
            self.assertTrue(self.checked(board.turned(2), wishes.turned(2)))
            self.assertTrue(self.checked(board.mirrored(), wishes.mirrored()))

    def test_random_wishes(self):
        rng = random.Random(542)
        for board in random_boards(542, 200, pins=7, length=60):
            self.checked(board * 2, random_lot(rng, board.pins, rng.randint(0, 3), 2) * 2)
            self.checked(board, random_lot(rng, board.pins, rng.randint(0, 5), 2))

    def test_wishes_without_cords(self):
        for board in SHAPES:
            even = board * 2
            self.assertEqual((), lay(even, Lot(board.pins)))

    def test_great_boards(self):
        rng = random.Random(543)
        for rows, columns, widths in ((4, 10, 5), (6, 6, 5), (1, 19, 8), (2, 5, 20)):
            board = grid_board(rng, rows, columns, widths)
            for most in (0, 10, 100):
                self.assertTrue(self.checked(board, self.lowered(rng, cords(board), most)))

    def test_a_thousand_wishes(self):
        board = Board(2, ((0, 2), (3, 1)), (299, 301))
        self.wires(board, Lot(2, [(0, 1, 600)]), lay(board, Lot(2, [(0, 1, 600)])))
        self.wires(board, Lot(2, [(0, 1, 2)]), lay(board, Lot(2, [(0, 1, 2)])))
        raised(self, Barred, {"first": 0, "last": 1, "held": 600, "wished": 1000}, lay, board, Lot(2, [(0, 1, 1000)]))

    def test_wires_take_turns_where_they_must(self):
        # Straight on there is no way for both wishes; one has to pass beside the middle.
        board = straight(Lot(6, [(0, 3, 1), (1, 4, 1), (2, 5, 1)]))
        for wishes in all_lots(6, 3):
            if wishes in Lot(6, [(0, 3, 1), (1, 4, 1), (2, 5, 1)]):
                self.assertTrue(self.checked(board, wishes))

    def test_errors_in_order(self):
        raised(self, UnlikePins, {"one": 4, "other": 3}, lay, ODD, Lot(3, [(0, 1, 9)]))
        raised(self, UnlikePins, {"one": 4, "other": 5}, lay, STAR, Lot(5))
        raised(self, OddJoint, {"joint": 4}, lay, ODD, Lot(4, [(0, 1, 9)]))
        raised(self, OddJoint, {"joint": 4}, lay, ODD, Lot(4))
        raised(self, OddEnds, {"pins": (2, 3)}, lay, STAR, Lot(4, [(0, 1, 9)]))
        raised(self, OddEnds, {"pins": (0, 1, 2, 3)}, lay, STAR, Lot(4))
        raised(self, Barred, {"first": 0, "last": 1, "held": 1, "wished": 9}, lay, STAR, Lot(4, [(0, 1, 9), (2, 3, 9)]))
        raised(self, Barred, {"first": 0, "last": 2, "held": 2, "wished": 4}, lay, STAR, Lot(4, [(0, 2, 3), (1, 3, 1)]))

    def test_odd_ends_are_told_by_the_ends_of_the_board(self):
        # The loop adds two ends at pin 0, and the joint takes two: neither makes a difference.
        board = Board(2, ((0, 2, 3), (1,)), (1, 1))
        self.wires(board, Lot(2, [(0, 1, 1)]), lay(board, Lot(2, [(0, 1, 1)])))
        raised(self, OddEnds, {"pins": (0, 1)}, lay, board, Lot(2))
        raised(self, OddEnds, {"pins": (0, 1)}, lay, board, Lot(2, [(0, 1, 2)]))


class LayHalves(Laying):

    def checked(self, board, wishes):
        bar = first_bar(fence_table(board), plain_table(wishes))
        if bar:
            raised(self, Barred, bar, lay_halves, board, wishes)
        else:
            self.wires(board * 2, wishes * 2, lay_halves(board, wishes))
        return not bar

    def test_odd_joint(self):
        board = Board(3, ((0,), (2,), (4,), (1, 3, 5)), (1, 1, 1))
        self.assertTrue(self.checked(board, Lot(3, [(0, 1, 1)])))
        self.assertFalse(self.checked(board, Lot(3, [(0, 1, 1), (1, 2, 1)])))
        self.assertTrue(self.checked(board, Lot(3)))

    def test_odd_ends(self):
        board = Board(4, ((8, 0), (10, 2, 9), (12, 4, 11), (6, 13), (1, 3, 5, 7)), (1,) * 7)
        self.assertTrue(self.checked(board, Lot(4, [(0, 2, 1), (1, 3, 1)])))
        self.assertTrue(self.checked(STAR, Lot(4, [(0, 1, 1)])))
        raised(self, OddEnds, {"pins": (2, 3)}, lay, STAR, Lot(4, [(0, 1, 1)]))

    def test_many_boards(self):
        rng = random.Random(550)
        laid = 0
        for board in (*random_boards(550, 150, pins=6, length=50, even=False), *SHAPES):
            for _ in range(4):
                laid += self.checked(board, random_lot(rng, board.pins, rng.randint(0, 3)))
        self.assertGreater(laid, 100)

    def test_all_small_wishes(self):
        for board in random_boards(551, 40, pins=4, length=20, even=False):
            for wishes in all_lots(board.pins, 3 if board.pins < 4 else 2):
                self.checked(board, wishes)

    def test_half_of_the_doubled_lot(self):
        # All that a board with odd joints carries at most, two by two.
        rng = random.Random(552)
        for board in random_boards(552, 100, pins=7, length=60, even=False):
            wishes = self.lowered(rng, cords(board * 2), 20)
            if all(n % 2 == 0 for _, _, n in wishes.cords):
                self.assertTrue(self.checked(board, Lot(board.pins, [(a, b, n // 2) for a, b, n in wishes.cords])))

    def test_great_boards(self):
        rng = random.Random(553)
        for rows, columns, widths in ((4, 10, 3), (6, 6, 3), (1, 19, 4)):
            board = grid_board(rng, rows, columns, widths)
            self.assertTrue(self.checked(board, cords(board)))
            self.checked(board.widened(5, 1), cords(board))
        self.assertTrue(self.checked(STAR * 75, Lot(4, [(0, 2, 75), (1, 3, 75)])))

    def test_wishes_without_cords(self):
        for board in SHAPES:
            self.assertEqual((), lay_halves(board, Lot(board.pins)))
        self.assertEqual((), lay_halves(EMPTY, Lot(0)))

    def test_errors_in_order(self):
        raised(self, UnlikePins, {"one": 4, "other": 3}, lay_halves, ODD, Lot(3, [(0, 1, 9)]))
        raised(self, Barred, {"first": 0, "last": 1, "held": 1, "wished": 9}, lay_halves, ODD, Lot(4, [(0, 1, 9)]))
        raised(self, Barred, {"first": 0, "last": 2, "held": 2, "wished": 3}, lay_halves, ODD,
               Lot(4, [(0, 2, 1), (2, 3, 2)]))
