"""Promises [51] and [52]."""

import itertools
import random
import unittest

from rimcords.boards import Board
from rimcords.errors import BadWire
from rimcords.laying import own_wires
from rimcords.cords import cords
from rimcords.lots import Lot
from rimcords.wires import are_wires, load, wire_joints
from tests.boardhelpers import EMPTY, SHAPES, STAR, grid_board, random_boards
from tests.helpers import BIG, NO_NUMBERS, as_lists, only_tuples, raised

# Pins 0, 1 and 2 in a row, the inner joint 3 beyond pin 1 with a track to itself, and a track from pin 0 to pin 2.
ROW = Board(3, ((0, 8), (2, 4, 1), (9, 3), (5, 6, 7)), (2, 2, 3, 1, 1))
KINDS = (None, 5, "0", "", {}, {0: 0}, {0}, STAR, range(1), iter(()))


class WireJoints(unittest.TestCase):

    def test_star(self):
        for a, b in itertools.permutations(range(4), 2):
            self.assertEqual((a, b), wire_joints(STAR, (2 * a, 2 * b + 1)))
            self.assertEqual((a, b), wire_joints(STAR, [2 * a, 2 * b + 1]))
            self.assertEqual((a, 4), wire_joints(STAR, (2 * a,)))
            self.assertEqual((4, b), wire_joints(STAR, (2 * b + 1,)))
        self.assertEqual((0, 0), wire_joints(STAR, (0, 1)))
        self.assertEqual((4, 4), wire_joints(STAR, (1, 0)))
        self.assertTrue(only_tuples(wire_joints(STAR, [1, 0])))

    def test_wires_that_pass_through_pins_or_come_back(self):
        self.assertEqual((0, 2), wire_joints(ROW, (0, 2)))
        self.assertEqual((0, 2), wire_joints(ROW, (0, 4, 6, 7, 6, 5, 2)))
        self.assertEqual((0, 0), wire_joints(ROW, (0, 2, 9)))
        self.assertEqual((0, 0), wire_joints(ROW, (8, 9, 8, 9)))
        self.assertEqual((3, 3), wire_joints(ROW, (6,)))
        self.assertEqual((1, 1), wire_joints(ROW, (1, 0, 2, 3)))
        self.assertEqual((0, 0), wire_joints(Board(1, ((0, 1),), (3,)), (1, 1, 0)))

    def test_no_wires(self):
        for wire in KINDS + ((), [], (0, 1, 2), (0, 0), (0, 3, 5), (8,), (-1,), (0, -1), ((0,),), [[0]]):
            error = raised(self, BadWire, {"wire": wire}, wire_joints, STAR, wire)
            self.assertIs(wire, error.wire)
        for number in NO_NUMBERS:
            raised(self, BadWire, {"wire": (number,)}, wire_joints, STAR, (number,))
            raised(self, BadWire, {"wire": [0, number]}, wire_joints, STAR, [0, number])
        # True is no end, although it equals one.
        raised(self, BadWire, {"wire": (0, True)}, wire_joints, STAR, (0, True))
        raised(self, BadWire, {"wire": (0,)}, wire_joints, EMPTY, (0,))

    def test_by_the_definition(self):
        for board in (ROW, STAR, *SHAPES[3:8], *random_boards(51, 6, pins=3, length=12)):
            ends = range(2 * len(board.widths))
            at = board.joint_of
            for wire in itertools.chain(*[itertools.product(ends, repeat=length) for length in (1, 2, 3)]):
                if all(at(one ^ 1) == at(other) for one, other in zip(wire, wire[1:])):
                    self.assertEqual((at(wire[0]), at(wire[-1] ^ 1)), wire_joints(board, wire))
                else:
                    raised(self, BadWire, {"wire": wire}, wire_joints, board, wire)


class AreWires(unittest.TestCase):

    def test_star(self):
        wishes = Lot(4, [(0, 2, 1), (1, 3, 1)])
        self.assertIs(True, are_wires(STAR, wishes, (((0, 5),), ((2, 7),))))
        self.assertIs(True, are_wires(STAR, wishes, [[[0, 5]], [[2, 7]]]))
        self.assertIs(True, are_wires(STAR, wishes, ([(0, 5)], ([2, 7],))))
        self.assertIs(False, are_wires(STAR, wishes, (((5, 0),), ((2, 7),))))
        self.assertIs(False, are_wires(STAR, wishes, (((4, 1),), ((2, 7),))))
        self.assertIs(False, are_wires(STAR, wishes, (((2, 7),), ((0, 5),))))
        self.assertIs(False, are_wires(STAR, wishes, (((0, 5),),)))
        self.assertIs(False, are_wires(STAR, wishes, (((0, 5),), ((2, 7),), ())))
        self.assertIs(False, are_wires(STAR, wishes, (((0, 5),), ())))
        self.assertIs(False, are_wires(STAR, wishes, (((0, 5),), ((2, 7), (2, 7)))))
        self.assertIs(False, are_wires(STAR, wishes, ((0, 5), (2, 7))))
        self.assertIs(False, are_wires(STAR, wishes, ()))

    def test_wishes_without_cords(self):
        for board in SHAPES:
            for wires in ((), []):
                self.assertIs(True, are_wires(board, Lot(board.pins), wires))
            self.assertIs(False, are_wires(board, Lot(board.pins), ((),)))

    def test_widths(self):
        one = (0, 2)
        self.assertIs(True, are_wires(ROW, Lot(3, [(0, 2, 2)]), ((one, one),)))
        self.assertIs(False, are_wires(ROW, Lot(3, [(0, 2, 3)]), ((one, one, one),)))
        self.assertIs(True, are_wires(ROW, Lot(3, [(0, 2, 3)]), ((one, (8,), one),)))
        self.assertIs(False, are_wires(ROW, Lot(3, [(0, 2, 2)]), (((8,), (8,)),)))
        # Steps count in both directions, and each step of a wire that comes back.
        self.assertIs(True, are_wires(ROW, Lot(3, [(0, 1, 1)]), (((0, 4, 5),),)))
        self.assertIs(False, are_wires(ROW, Lot(3, [(0, 1, 1)]), (((0, 4, 5, 4, 5),),)))
        self.assertIs(False, are_wires(ROW, Lot(3, [(0, 1, 1)]), (((0, 1, 0),),)))
        self.assertIs(True, are_wires(ROW.widened(0, 1), Lot(3, [(0, 1, 1)]), (((0, 1, 0),),)))
        self.assertIs(False, are_wires(ROW, Lot(3, [(0, 1, 1), (1, 2, 1)]), (((8, 3),), ((1, 8),))))
        self.assertIs(True, are_wires(ROW.widened(4, 1), Lot(3, [(0, 1, 1), (1, 2, 1)]), (((8, 3),), ((1, 8),))))

    def test_loops(self):
        self.assertIs(True, are_wires(ROW, Lot(3, [(0, 2, 1)]), (((0, 4, 6, 5, 2),),)))
        self.assertIs(True, are_wires(ROW, Lot(3, [(0, 2, 1)]), (((0, 4, 7, 5, 2),),)))
        self.assertIs(False, are_wires(ROW, Lot(3, [(0, 2, 1)]), (((0, 4, 6, 6, 5, 2),),)))

    def test_wires_between_other_pins(self):
        for wire in ((0,), (2,), (3, 1), (9,), (0, 4), (4, 5), (6,), (0, 2, 9)):
            self.assertIs(False, are_wires(ROW, Lot(3, [(0, 2, 1)]), ((wire,),)))

    def test_other_rims(self):
        for pins in (0, 3, 5):
            self.assertIs(False, are_wires(STAR, Lot(pins), ()))
        self.assertIs(False, are_wires(STAR, Lot(5, [(0, 2, 1)]), (((0, 5),),)))
        self.assertIs(False, are_wires(STAR, Lot(3, [(0, 2, 1)]), (((0, 5),),)))

    def test_of_whatever_kind(self):
        wishes = Lot(4, [(0, 2, 1)])
        self.assertIs(True, are_wires(STAR, wishes, (((0, 5),),)))
        for thing in KINDS + (True, (), 0.5, "ab", ("a",), (None,)):
            self.assertIs(False, are_wires(STAR, wishes, thing))
            self.assertIs(False, are_wires(STAR, wishes, (thing,)))
            self.assertIs(False, are_wires(STAR, wishes, ((thing,),)))
        for end in KINDS[2:] + NO_NUMBERS + (-1, 8, 10 ** 20):
            self.assertIs(False, are_wires(STAR, wishes, (((0, end),),)))

    def test_great_numbers(self):
        board = Board(2, ((0,), (1,)), (BIG,))
        self.assertIs(False, are_wires(board, Lot(2, [(0, 1, BIG)]), (((0,), (0,)),)))
        self.assertIs(True, are_wires(board, Lot(2, [(0, 1, 1000)]), (((0,),) * 1000,)))
        self.assertIs(False, are_wires(board.widened(0, 999 - BIG), Lot(2, [(0, 1, 1000)]), (((0,),) * 1000,)))

    def test_small_changes_are_noticed(self):
        rng = random.Random(52)
        for board in random_boards(52, 40, pins=6, length=40):
            lot = cords(board)
            wires = own_wires(board)
            self.assertIs(True, are_wires(board, lot, wires))
            self.assertIs(True, are_wires(board, lot, as_lists(wires)))
            if lot.cords:
                changed = as_lists(wires)
                item = rng.choice(changed)
                wire = rng.choice(item)
                at = rng.randrange(len(wire))
                for steps in (wire[::-1], wire[:at] + wire[at + 1:], wire[:at] + [wire[at] ^ 1] + wire[at + 1:]):
                    right = self.leads_alike(board, wire, steps) and self.carried(board, wires, wire, steps)
                    item[item.index(wire)] = steps
                    self.assertIs(right, are_wires(board, lot, changed))
                    item[item.index(steps)] = wire
                item.append(wire)
                self.assertIs(False, are_wires(board, lot, changed))

    def leads_alike(self, board, wire, steps):
        at = board.joint_of
        return (len(steps) > 0 and at(steps[0]) == at(wire[0]) and at(steps[-1] ^ 1) == at(wire[-1] ^ 1)
                and all(at(one ^ 1) == at(other) for one, other in zip(steps, steps[1:])))

    def carried(self, board, wires, wire, steps):
        ends = [end for item in wires for one in item for end in one] + list(steps)
        for end in wire:
            ends.remove(end)
        return all(sum(end // 2 == track for end in ends) <= width for track, width in enumerate(board.widths))


class Load(unittest.TestCase):

    def test_steps_along_tracks(self):
        self.assertEqual((0, 0, 0, 0, 0), load(ROW, ()))
        self.assertEqual((0, 0, 0, 0, 0), load(ROW, ((), [])))
        self.assertEqual((2, 1, 4, 3, 1), load(ROW, (((0, 4, 6, 7, 6, 5, 2),), ((0, 4, 5), (8,)))))
        self.assertEqual((2, 1, 4, 3, 1), load(ROW, [[[0, 4, 6, 7, 6, 5, 2]], [[0, 4, 5], [8]]]))
        self.assertEqual((), load(EMPTY, ()))
        self.assertTrue(only_tuples(load(ROW, [])))

    def test_more_than_the_widths(self):
        self.assertEqual((0, 1000, 0, 0), load(STAR, (((2,),) * 1000,)))

    def test_great_boards(self):
        board = grid_board(random.Random(53), 3, 5)
        wires = own_wires(board)
        steps = [end // 2 for item in wires for wire in item for end in wire]
        self.assertEqual(tuple(steps.count(track) for track in range(len(board.widths))), load(board, wires))
        self.assertEqual(load(board, wires), load(board * BIG, as_lists(wires)))
