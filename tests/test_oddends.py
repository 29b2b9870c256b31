"""Promises [56] and [57]."""

import inspect
import itertools
import random
import unittest

from rimcords.boards import Board
from rimcords.cords import cords
from rimcords.errors import OddJoint, TooMany, UnlikePins
from rimcords.fences import fence_table
from rimcords.laying import lay
from rimcords.lots import Lot
from rimcords.oddends import are_refusals, lay_some, pairings, refusals
from rimcords.wires import are_wires
from tests.boardhelpers import EMPTY, SHAPES, STAR, grid_board, random_boards, ring_board
from tests.helpers import BIG, NO_NUMBERS, all_lots, as_lists, only_tuples, plain_table, raised, random_lot

ODD = STAR.widened(2, 1)
# Ten pins, all with one end: pin 0 to pin 9, pin 1 to pin 8 and so on.
RAILS = Board(10, tuple((pin,) for pin in (0, 2, 4, 6, 8, 9, 7, 5, 3, 1)), (1, 1, 1, 1, 1))


def simple_ways(board, a, b):
    """The ways from joint to joint that pass through no joint twice."""
    found = []
    fresh = [(a, ())]
    while fresh:
        at, steps = fresh.pop()
        for end in board.turns[at]:
            reached = board.joint_of(end ^ 1)
            if reached == b:
                found.append(steps + (end,))
            elif reached != a and reached not in [board.joint_of(step ^ 1) for step in steps]:
                fresh.append((reached, steps + (end,)))
    return found


def can_be_laid(board, wishes):
    """Whether there are wires, by trying all ways."""
    singles = [(a, b) for a, b, n in wishes.cords for _ in range(n)]
    ways = {(a, b): simple_ways(board, a, b) for a, b in singles}
    fresh = [(0, board.widths)]
    seen = set()
    while fresh:
        place, left = fresh.pop()
        if place == len(singles):
            return True
        for steps in ways[singles[place]]:
            rest = list(left)
            for end in steps:
                rest[end // 2] -= 1
            if min(rest) >= 0 and (place + 1, tuple(rest)) not in seen:
                seen.add((place + 1, tuple(rest)))
                fresh.append((place + 1, tuple(rest)))
    return False


def odd_pins(board, wishes):
    return [pin for pin in range(board.pins) if (board.ends(pin) - wishes.ends(pin)) % 2 == 1]


class Pairings(unittest.TestCase):

    def test_few_pins(self):
        self.assertEqual([()], list(pairings(())))
        self.assertEqual([()], list(pairings([])))
        self.assertEqual([], list(pairings((3,))))
        self.assertEqual([((3, 7),)], list(pairings((3, 7))))
        self.assertEqual([], list(pairings((3, 5, 7))))
        self.assertEqual([((1, 2), (5, 9)), ((1, 5), (2, 9)), ((1, 9), (2, 5))], list(pairings([1, 2, 5, 9])))

    def test_by_the_definition(self):
        for pins in ((0, 1), (2, 3, 5, 8), (0, 1, 2, 3, 4, 5), (4, 5, 7, 9, 11, 12, 30, 39)):
            pairs = list(itertools.combinations(pins, 2))
            due = [found for found in itertools.combinations(pairs, len(pins) // 2)
                   if sorted(itertools.chain(*found)) == list(pins)]
            self.assertEqual(due, list(pairings(pins)))
            self.assertEqual(sorted(due), list(pairings(list(pins))))

    def test_many_pins(self):
        for pins, many in ((8, 105), (9, 0), (10, 945)):
            found = list(pairings(range(pins)))
            self.assertEqual(many, len(found))
            self.assertEqual(many, len(set(found)))
            self.assertEqual(sorted(found), found)
            self.assertTrue(only_tuples(tuple(found)))

    def test_generator(self):
        self.assertTrue(inspect.isgenerator(pairings((0, 1))))


class Wires(unittest.TestCase):

    def checked(self, board, wishes):
        """Checks all three functions on a board and wishes; tells whether there are wires."""
        table = fence_table(board)
        due = []
        for pairing in pairings(odd_pins(board, wishes)):
            passed = plain_table(wishes + Lot(board.pins, [(p, q, 1) for p, q in pairing]))
            barred = [(i, j) for i, j in itertools.combinations(range(len(table)), 2) if passed[i][j] > table[i][j]]
            due.append((pairing, *barred[0]) if barred else None)
        wires = lay_some(board, wishes)
        items = refusals(board, wishes)
        if None in due:
            self.assertIs(None, items)
            self.assertTrue(only_tuples(wires))
            self.assertIs(True, are_wires(board, wishes, wires))
        else:
            self.assertIs(None, wires)
            self.assertEqual(tuple(due), items)
            self.assertTrue(only_tuples(items))
            self.assertIs(True, are_refusals(board, wishes, items))
            self.assertIs(True, are_refusals(board, wishes, as_lists(items)))
        return wires is not None

    def test_without_odd_pins(self):
        wishes = Lot(4, [(0, 1, 1), (2, 3, 1)])
        self.assertEqual(lay(STAR, wishes), lay_some(STAR, wishes))
        self.assertIs(None, refusals(STAR, wishes))
        tight = Board(2, ((0,), (1,)), (1,))
        self.assertIs(None, lay_some(tight, Lot(2, [(0, 1, 3)])))
        self.assertEqual((((), 0, 1),), refusals(tight, Lot(2, [(0, 1, 3)])))

    def test_without_wishes(self):
        for board in SHAPES:
            if len(odd_pins(board, Lot(board.pins))) <= 8:
                self.assertEqual((), lay_some(board, Lot(board.pins)))
                self.assertTrue(self.checked(board, Lot(board.pins)))

    def test_boards_without_pins(self):
        self.assertEqual((), lay_some(EMPTY, Lot(0)))
        self.assertIs(None, refusals(EMPTY, Lot(0)))
        self.assertIs(False, are_refusals(EMPTY, Lot(0), ()))

    def test_star(self):
        for wishes in (Lot(4, [(0, 1, 1)]), Lot(4, [(0, 2, 1)]), Lot(4)):
            self.assertTrue(self.checked(STAR, wishes))
        # Odd pins of which no pairing helps.
        wishes = Lot(4, [(0, 1, 2)])
        self.assertFalse(self.checked(STAR, wishes))
        self.assertEqual((((0, 1), (2, 3)), 0, 1), refusals(STAR, wishes)[0])
        self.assertEqual(3, len(refusals(STAR, wishes)))

    def test_pairs_are_not_laid(self):
        # The rest of the track may be needed by nobody, and its wire is left out again.
        board = Board(2, ((0,), (1,)), (4,))
        self.assertEqual((), lay_some(board, Lot(2)))
        for many in range(1, 5):
            self.assertEqual((((0,),) * many,), lay_some(board, Lot(2, [(0, 1, many)])))
        board = Board(3, ((0,), (2, 1), (3,)), (1, 1))
        self.assertEqual((((0,),),), lay_some(board, Lot(3, [(0, 1, 1)])))
        self.assertEqual((((2,),),), lay_some(board, Lot(3, [(1, 2, 1)])))

    def test_all_small_wishes_by_trying_all_ways(self):
        boards = [board for board in (*random_boards(560, 60, pins=4, length=20), *SHAPES, RAILS)
                  if 0 < sum(board.widths) <= 12 and len(board.widths) <= 8 and board.pins <= 5]
        answers = []
        for board in boards:
            for wishes in all_lots(board.pins, 3 if board.pins <= 3 else 2):
                answers.append(self.checked(board, wishes))
                self.assertIs(can_be_laid(board, wishes), answers[-1])
        self.assertGreater(answers.count(True), 100)
        self.assertGreater(answers.count(False), 100)

    def test_random_wishes(self):
        rng = random.Random(561)
        for board in random_boards(561, 150, pins=8, length=60):
            self.checked(board, random_lot(rng, board.pins, rng.randint(0, 4), 2))

    def test_eight_odd_pins(self):
        wishes = Lot(10, [(0, 9, 1)])
        self.assertEqual(8, len(odd_pins(RAILS, wishes)))
        self.assertEqual((((0,),),), lay_some(RAILS, wishes))
        self.assertTrue(self.checked(RAILS, wishes))
        wishes = Lot(10, [(0, 8, 1)])
        self.assertFalse(self.checked(RAILS, wishes))
        self.assertEqual(105, len(refusals(RAILS, wishes)))

    def test_great_boards(self):
        rng = random.Random(562)
        board = grid_board(rng, 4, 10, 5) * 2
        lot = cords(board)
        few = Lot(28, [(a, b, n - (place < 4)) for place, (a, b, n) in enumerate(lot.cords) if n > 1])
        pins = odd_pins(board, few)
        self.assertLessEqual(len(pins), 8)
        self.assertGreater(len(pins), 0)
        self.assertTrue(self.checked(board, few))
        self.assertTrue(self.checked(ring_board(40) * 2, Lot(40, [(3, 4, 1), (5, 20, 1)])))

    def test_great_numbers(self):
        board = RAILS * BIG
        wishes = Lot(10, [(0, 9, BIG - 1), (1, 8, BIG - 1), (2, 7, BIG)])
        self.assertIs(None, refusals(board, wishes))
        self.assertIs(False, are_refusals(board, wishes, ()))
        wishes = wishes + Lot(10, [(3, 5, 1)])
        found = refusals(board, wishes)
        self.assertEqual(15, len(found))
        self.assertIs(True, are_refusals(board, wishes, found))


class AreRefusals(unittest.TestCase):

    BOARD = Board(4, ((0,), (2,), (4,), (6,), (1, 3, 5, 7)), (2, 2, 2, 2))
    WISHES = Lot(4, [(0, 1, 3)])
    ITEMS = ((((0, 1),), 0, 1),)

    def test_any_two_gaps(self):
        wishes = Lot(4, [(0, 1, 3)])
        self.assertEqual(self.ITEMS, refusals(self.BOARD, wishes))
        table = fence_table(self.BOARD)
        passed = plain_table(Lot(4, [(0, 1, 4)]))
        for first, last in itertools.product(range(4), repeat=2):
            right = passed[first][last] > table[first][last]
            self.assertIs(right, are_refusals(self.BOARD, wishes, ((((0, 1),), first, last),)))
            self.assertIs(right, are_refusals(self.BOARD, wishes, [[[[0, 1]], first, last]]))
        self.assertIs(True, are_refusals(self.BOARD, wishes, ((((0, 1),), 1, 0),)))
        self.assertIs(False, are_refusals(self.BOARD, wishes, ((((0, 1),), 1, 1),)))
        self.assertIs(False, are_refusals(self.BOARD, wishes, ((((0, 1),), 1, 2),)))

    def test_each_pairing_in_order(self):
        wishes = Lot(4, [(0, 1, 2)])
        items = refusals(STAR, wishes)
        self.assertIs(True, are_refusals(STAR, wishes, items))
        for wrong in (items[::-1], items[:2], items + items[:1], (), items[1:], (items[0],) * 3):
            self.assertIs(False, are_refusals(STAR, wishes, wrong))

    def test_where_there_are_wires(self):
        wishes = Lot(4, [(0, 1, 1)])
        for first, last in itertools.product(range(4), repeat=2):
            self.assertIs(False, are_refusals(self.BOARD, wishes, ((((0, 1),), first, last),)))
        self.assertIs(False, are_refusals(self.BOARD, wishes, ()))
        self.assertIs(False, are_refusals(self.BOARD, wishes, None))

    def test_without_odd_pins(self):
        wishes = Lot(4, [(0, 1, 4)])
        self.assertIs(True, are_refusals(self.BOARD, wishes, (((), 0, 1),)))
        self.assertIs(True, are_refusals(self.BOARD, wishes, [[[], 3, 0]]))
        self.assertIs(False, are_refusals(self.BOARD, wishes, ()))
        self.assertIs(False, are_refusals(self.BOARD, wishes, ((((0, 1),), 0, 1),)))

    def test_of_whatever_kind(self):
        things = (None, 5, "0", "", {}, {0: 0}, {0}, STAR, range(1), iter(()), True, (), [], (0,), ("a", "b"), 0.5)
        for thing in things:
            for items in (thing, (thing,), ((thing, 0, 1),), (((thing,), 0, 1),)):
                self.assertIs(False, are_refusals(self.BOARD, self.WISHES, items))
        for number in NO_NUMBERS + ("a", {}, STAR):
            for items in (((((number, 1),), 0, 1),), ((((0, number),), 0, 1),), ((((0, 1),), number, 1),),
                          ((((0, 1),), 0, number),)):
                self.assertIs(False, are_refusals(self.BOARD, self.WISHES, items))
        for items in (((((1, 0),), 0, 1),), ((((0, 1, 0),), 0, 1),), ((((0, 1),), 0),), ((((0, 1),), 0, 1, 2),),
                      ((((0, 1), (2, 3)), 0, 1),), ((((0, 2),), 0, 1),), ((((2, 1),), 0, 1),), ((((0, 1),), 0, 4),),
                      ((((0, 1),), 0, -3),)):
            self.assertIs(False, are_refusals(self.BOARD, self.WISHES, items))


class Errors(unittest.TestCase):

    def each(self, error, fields, board, wishes):
        raised(self, error, fields, lay_some, board, wishes)
        raised(self, error, fields, refusals, board, wishes)
        for items in (None, (), 5):
            raised(self, error, fields, are_refusals, board, wishes, items)

    def test_unlike_pins(self):
        self.each(UnlikePins, {"one": 4, "other": 3}, ODD, Lot(3, [(0, 1, 9)]))
        self.each(UnlikePins, {"one": 10, "other": 0}, RAILS, Lot(0))

    def test_odd_joints(self):
        self.each(OddJoint, {"joint": 4}, ODD, Lot(4, [(0, 1, 9)]))
        self.each(OddJoint, {"joint": 10}, Board(10, (*RAILS.turns[:9], (1, 10), (11,)), RAILS.widths + (1,)), Lot(10))

    def test_too_many(self):
        self.each(TooMany, {"number": 10}, RAILS, Lot(10))
        self.each(TooMany, {"number": 10}, RAILS, Lot(10, [(0, 5, 98)]))
        board = ring_board(20).beside(ring_board(20))
        self.each(TooMany, {"number": 40}, board, Lot(40, [(pin, pin + 1, 1) for pin in range(0, 40, 2)]))
