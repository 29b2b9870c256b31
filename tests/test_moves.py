"""Promises [15] to [19] and [22]."""

import itertools
import random
import unittest

from rimcords.errors import NoMove
from rimcords.lots import Lot
from rimcords.moves import bare, crossings, is_move, is_run, lowered, moved, moves, run
from rimcords.rims import crosses
from tests.helpers import BIG, NO_NUMBERS, all_lots, full_lot, only_tuples, plain_parts, plain_table, raised, random_lot


def plain_allowed(lot, a, b, c, d):
    """Whether the move is allowed, word by word."""
    if a == b or c == d or not (b == c or crosses(a, b, c, d)):
        return False
    if {a, b} == {c, d}:
        return lot.between(a, b) >= 2
    return lot.between(a, b) >= 1 and lot.between(c, d) >= 1


def writings(a, b, c, d):
    """All writings of a move."""
    if crosses(a, b, c, d):
        return {(a, b, c, d), (d, c, b, a), (b, a, d, c), (c, d, a, b)}
    return {(a, b, c, d), (d, c, b, a)}


def plain_moves(lot):
    fours = itertools.product(range(lot.pins), repeat=4)
    return sorted({min(writings(*four)) for four in fours if plain_allowed(lot, *four)})


def some_lots(seed, many=150, pins=6):
    rng = random.Random(seed)
    return [random_lot(rng, rng.randint(0, pins), rng.randint(0, 7), 2) for _ in range(many)]


class Moves(unittest.TestCase):

    def test_of_the_document(self):
        self.assertEqual([(0, 2, 1, 3), (0, 2, 3, 1)], list(moves(Lot(4, [(0, 2, 1), (1, 3, 1)]))))

    def test_common_pin(self):
        self.assertEqual([(1, 0, 0, 2)], list(moves(Lot(3, [(0, 1, 1), (0, 2, 1)]))))
        self.assertEqual([(0, 1, 1, 2)], list(moves(Lot(3, [(0, 1, 1), (1, 2, 1)]))))
        self.assertEqual([(0, 2, 2, 1)], list(moves(Lot(3, [(0, 2, 1), (1, 2, 1)]))))

    def test_two_cords_between_the_same_pins(self):
        self.assertEqual([(0, 1, 1, 0), (1, 0, 0, 1)], list(moves(Lot(2, [(0, 1, 2)]))))
        self.assertEqual([], list(moves(Lot(2, [(0, 1, 1)]))))

    def test_none(self):
        for lot in (Lot(0), Lot(1), Lot(2), Lot(5), Lot(4, [(0, 1, 1), (2, 3, 1)])):
            self.assertEqual([], list(moves(lot)))

    def test_by_the_definition(self):
        for lot in some_lots(16):
            self.assertEqual(plain_moves(lot), list(moves(lot)))
            self.assertTrue(only_tuples(tuple(moves(lot))))

    def test_numbers_make_no_difference(self):
        for lot in some_lots(17, 30):
            doubled = lot * 2
            self.assertEqual(list(moves(doubled)), list(moves(doubled * (BIG // 4))))

    def test_a_generator(self):
        found = moves(Lot(2, [(0, 1, 2)]))
        self.assertIs(found, iter(found))
        self.assertEqual((0, 1, 1, 0), next(found))
        self.assertEqual((0, 2, 1, 3), next(moves(Lot(40, [(0, 2, BIG), (1, 3, BIG)]))))

    def test_great_lots(self):
        self.assertEqual(2 * 91390 + 40 * 741 + 40 * 39, sum(1 for _ in moves(full_lot(40))))


class IsMove(unittest.TestCase):

    def test_writings(self):
        crossing = Lot(4, [(0, 2, 1), (1, 3, 1)])
        for move in writings(0, 2, 1, 3) | writings(0, 2, 3, 1):
            self.assertIs(True, is_move(crossing, move))
            self.assertIs(True, is_move(crossing, list(move)))
        common = Lot(3, [(0, 1, 1), (0, 2, 1)])
        self.assertIs(True, is_move(common, (1, 0, 0, 2)))
        self.assertIs(True, is_move(common, (2, 0, 0, 1)))
        self.assertIs(False, is_move(common, (0, 1, 0, 2)))
        self.assertIs(False, is_move(common, (0, 1, 2, 0)))

    def test_by_the_definition(self):
        for lot in some_lots(18, 60, 5):
            for four in itertools.product(range(lot.pins), repeat=4):
                self.assertIs(plain_allowed(lot, *four), is_move(lot, four))

    def test_of_whatever_kind(self):
        lot = Lot(4, [(0, 1, 2), (0, 2, 2), (1, 3, 1)])
        for move in (None, 5, "0213", {}, (), (0, 2, 1), (0, 2, 1, 3, 1), ((0, 2), (1, 3)), lot, range(4)):
            self.assertIs(False, is_move(lot, move))
        self.assertIs(True, is_move(lot, (1, 0, 0, 1)))
        self.assertIs(False, is_move(lot, (True, 0, 0, True)))
        self.assertIs(False, is_move(lot, (1, False, False, 1)))
        self.assertIs(True, is_move(lot, (0, 2, 1, 3)))
        for number in NO_NUMBERS + (-1, 4):
            for place in range(4):
                move = [0, 2, 1, 3]
                move[place] = number
                self.assertIs(False, is_move(lot, move))
                raised(self, NoMove, {"move": move}, moved, lot, move)


class Moved(unittest.TestCase):

    def test_crossing(self):
        lot = Lot(4, [(0, 2, 3), (1, 3, 2)])
        self.assertEqual(Lot(4, [(0, 2, 2), (1, 3, 1), (0, 3, 1), (1, 2, 1)]), moved(lot, (0, 2, 1, 3)))
        self.assertEqual(Lot(4, [(0, 2, 2), (1, 3, 1), (0, 1, 1), (2, 3, 1)]), moved(lot, (0, 2, 3, 1)))
        self.assertEqual(Lot(4, [(0, 2, 3), (1, 3, 2)]), lot)

    def test_common_pin(self):
        self.assertEqual(Lot(3, [(1, 2, 1)]), moved(Lot(3, [(0, 1, 1), (0, 2, 1)]), (1, 0, 0, 2)))
        for move in ((0, 1, 1, 0), (1, 0, 0, 1)):
            self.assertEqual(Lot(2, [(0, 1, 3)]), moved(Lot(2, [(0, 1, 5)]), move))
            self.assertEqual(Lot(2), moved(Lot(2, [(0, 1, 2)]), move))

    def test_writings_do_the_same(self):
        for lot in some_lots(19, 60):
            for move in moves(lot):
                due = moved(lot, move)
                for writing in writings(*move):
                    self.assertEqual(due, moved(lot, writing))

    def test_no_move(self):
        lot = Lot(4, [(0, 1, 1), (2, 3, 1)])
        for move in (None, "move", (0, 1, 2, 3), (0, 1, 1, 0), [0, 1]):
            error = raised(self, NoMove, {"move": move}, moved, lot, move)
            self.assertIs(move, error.move)


class Lowered(unittest.TestCase):

    def test_crossing(self):
        self.assertEqual(((0, 2),), lowered(4, (0, 2, 1, 3)))
        self.assertEqual(((1, 3),), lowered(4, (0, 2, 3, 1)))
        self.assertEqual(((0, 3), (0, 4), (1, 3), (1, 4)), lowered(6, (0, 3, 2, 5)))

    def test_common_pin(self):
        self.assertEqual(((0, 2),), lowered(3, (1, 0, 0, 2)))
        self.assertEqual(((0, 1),), lowered(2, (0, 1, 1, 0)))
        self.assertEqual(((0, 1), (0, 2), (1, 3), (2, 3)), lowered(4, (1, 3, 3, 1)))

    def test_by_the_definition_and_by_the_tables(self):
        for lot in some_lots(20):
            table = plain_table(lot)
            for move in moves(lot):
                a, b, c, d = move
                found = lowered(lot.pins, move)
                pairs = [(i, j) for i in range(lot.pins) for j in range(i + 1, lot.pins)]
                due = [
                    pair for pair in pairs
                    if plain_parts(lot.pins, a, b, *pair) and plain_parts(lot.pins, c, d, *pair)
                    and not plain_parts(lot.pins, a, d, *pair) and not plain_parts(lot.pins, b, c, *pair)
                ]
                self.assertEqual(tuple(due), found)
                self.assertTrue(found)
                new = plain_table(moved(lot, move))
                for i, j in pairs:
                    self.assertEqual(table[i][j] - (2 if (i, j) in found else 0), new[i][j])
                for writing in writings(*move):
                    self.assertEqual(found, lowered(lot.pins, list(writing)))

    def test_great_rims(self):
        self.assertEqual(100, len(lowered(40, (0, 20, 10, 30))))


class Runs(unittest.TestCase):

    LOT = Lot(4, [(0, 2, 1), (1, 3, 1)])

    def test_run(self):
        self.assertEqual(self.LOT, run(self.LOT, ()))
        self.assertEqual(Lot(4, [(0, 3, 1), (1, 2, 1)]), run(self.LOT, [(0, 2, 1, 3)]))
        twice = Lot(4, [(0, 2, 2), (1, 3, 2)])
        course = [[0, 2, 1, 3], (0, 2, 3, 1), (3, 0, 0, 1)]
        self.assertEqual(Lot(4, [(1, 2, 1), (2, 3, 1), (1, 3, 1)]), run(twice, course))
        self.assertEqual(run(twice, course), run(twice, tuple(course)))

    def test_run_as_single_moves(self):
        rng = random.Random(5)
        for lot in some_lots(21, 60):
            here = lot
            course = []
            for _ in range(6):
                found = list(moves(here))
                if found:
                    course.append(rng.choice(found))
                    here = moved(here, course[-1])
            self.assertEqual(here, run(lot, course))
            self.assertIs(True, is_run(lot, course, here))

    def test_no_move(self):
        wrong = [0, 2, 1, 3]
        error = raised(self, NoMove, {"move": wrong}, run, self.LOT, [(0, 2, 1, 3), wrong, None])
        self.assertIs(wrong, error.move)
        for item in (None, 7, "0213", (0, 2)):
            raised(self, NoMove, {"move": item}, run, self.LOT, [item, (9,)])

    def test_is_run(self):
        goal = Lot(4, [(0, 3, 1), (1, 2, 1)])
        self.assertIs(True, is_run(self.LOT, [(0, 2, 1, 3)], goal))
        self.assertIs(True, is_run(self.LOT, ([3, 1, 2, 0],), goal))
        self.assertIs(True, is_run(self.LOT, (), self.LOT))
        self.assertIs(False, is_run(self.LOT, (), goal))
        self.assertIs(False, is_run(self.LOT, [(0, 2, 3, 1)], goal))
        self.assertIs(False, is_run(self.LOT, [(0, 2, 1, 3), (0, 2, 1, 3)], goal))
        self.assertIs(False, is_run(self.LOT, [(0, 2, 1, 3), None], goal))
        self.assertIs(False, is_run(self.LOT, [None], self.LOT))
        self.assertIs(False, is_run(self.LOT, (), Lot(5, self.LOT.cords)))
        self.assertIs(False, is_run(Lot(2), (), Lot(3)))

    def test_long_runs(self):
        lot = Lot(4, [(0, 2, 500), (1, 3, 500)])
        goal = Lot(4, [(0, 3, 500), (1, 2, 500)])
        self.assertEqual(goal, run(lot, [(0, 2, 1, 3)] * 500))
        self.assertIs(True, is_run(lot, [(0, 2, 1, 3)] * 500, goal))


class Crossings(unittest.TestCase):

    def test_few(self):
        self.assertEqual(0, crossings(Lot(0)))
        self.assertEqual(0, crossings(Lot(1)))
        self.assertEqual(0, crossings(Lot(2, [(0, 1, 9)])))
        self.assertEqual(0, crossings(Lot(4, [(0, 1, 5), (2, 3, 5), (0, 2, 5)])))
        self.assertEqual(15, crossings(Lot(4, [(0, 2, 3), (1, 3, 5)])))

    def test_by_the_definition(self):
        for lot in some_lots(22, 200, 9):
            due = sum(
                n * m for (a, b, n), (c, d, m) in itertools.combinations(lot.cords, 2) if crosses(a, b, c, d)
            )
            self.assertEqual(due, crossings(lot))

    def test_great_lots(self):
        self.assertEqual(91390 * BIG * BIG, crossings(full_lot(40)))


class Bare(unittest.TestCase):

    def test_few(self):
        for lot in (Lot(0), Lot(1), Lot(2), Lot(2, [(0, 1, 1)]), Lot(4, [(0, 3, 1), (1, 2, 1)])):
            self.assertIs(True, bare(lot))
        for lot in (Lot(2, [(0, 1, 2)]), Lot(3, [(0, 1, 1), (1, 2, 1)]), Lot(4, [(0, 2, 1), (1, 3, 1)])):
            self.assertIs(False, bare(lot))
        self.assertIs(False, bare(full_lot(40)))

    def test_by_the_moves(self):
        for lot in all_lots(4, 3):
            self.assertIs(not plain_moves(lot), bare(lot))

    def test_every_row_of_moves_ends_in_a_bare_lot(self):
        rng = random.Random(6)
        for lot in some_lots(23, 60):
            left = sum(sum(row) for row in plain_table(lot))
            while not bare(lot):
                lot = moved(lot, rng.choice(list(moves(lot))))
                self.assertLess(sum(sum(row) for row in plain_table(lot)), left)
                left = sum(sum(row) for row in plain_table(lot))
            self.assertTrue(all(lot.ends(pin) <= 1 for pin in range(lot.pins)))
