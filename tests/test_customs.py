"""Promises [74] to [76]."""

import itertools
import random
import unittest

from rimcords.boards import Board
from rimcords.customs import Custom, breach, busiest, most_across
from rimcords.errors import BadCap, BadGap, BadNumber, BadPair, BadPins, Barred, UnlikePins
from rimcords.fences import fence_table
from rimcords.laying import lay_halves
from rimcords.lots import Lot
from rimcords.shares import survives
from tests.boardhelpers import EMPTY, SHAPES, STAR, grid_board, random_boards, ring_board
from tests.helpers import BIG, NO_NUMBERS, all_lots, as_lists, only_tuples, plain_arc, plain_parts, plain_table, raised


def random_custom(rng, pins, most=3, many=3):
    pairs = list(itertools.combinations(range(pins), 2))
    return Custom(pins, [rng.randint(0, most) for _ in range(pins)], rng.sample(pairs, min(many, len(pairs))))


def keeps(custom, lot):
    """Whether a lot keeps to the custom, by the definition."""
    return all(lot.ends(pin) <= cap for pin, cap in enumerate(custom.caps)) and \
        not any((a, b) in custom.barred for a, b, _ in lot.cords)


def least_cover(custom, first, last):
    """The most that can pass, by the least sum of caps of pins that stand at all pairs which are not barred."""
    near = plain_arc(custom.pins, first, last)
    far = [pin for pin in range(custom.pins) if pin not in near]
    found = []
    for many in range(len(near) + 1):
        for covered in itertools.combinations(near, many):
            needed = {b for a in near for b in far
                      if a not in covered and (min(a, b), max(a, b)) not in custom.barred}
            found.append(sum(custom.caps[pin] for pin in (*covered, *needed)))
    return min(found)


class Making(unittest.TestCase):

    def test_fields(self):
        custom = Custom(4, [1, 2, 0, 5], [[3, 1], (0, 1), (1, 3), [1, 0]])
        self.assertEqual(4, custom.pins)
        self.assertEqual((1, 2, 0, 5), custom.caps)
        self.assertEqual(((0, 1), (1, 3)), custom.barred)
        self.assertTrue(only_tuples(custom.barred))
        self.assertTrue(only_tuples(custom.caps))

    def test_lists_are_not_kept(self):
        caps, pair = [1, 2, 3], [0, 2]
        pairs = [pair]
        custom = Custom(3, caps, pairs)
        caps[0] = 9
        pair[0] = 1
        pairs.append((0, 1))
        self.assertEqual((1, 2, 3), custom.caps)
        self.assertEqual(((0, 2),), custom.barred)

    def test_without_barred_pairs(self):
        for custom in (Custom(2, (1, 1)), Custom(2, [1, 1], []), Custom(pins=2, caps=(1, 1), barred=())):
            self.assertEqual((), custom.barred)

    def test_few_pins(self):
        self.assertEqual((0, (), ()), (Custom(0, ()).pins, Custom(0, []).caps, Custom(0, (), []).barred))
        self.assertEqual((7,), Custom(1, [7]).caps)

    def test_bad_pins(self):
        for pins in NO_NUMBERS + (-1,):
            raised(self, BadPins, {"pins": pins}, Custom, pins, (None,), (None,))

    def test_bad_caps(self):
        raised(self, BadCap, {"pin": 0}, Custom, 2, (), (None,))
        raised(self, BadCap, {"pin": 1}, Custom, 2, (5,), (None,))
        raised(self, BadCap, {"pin": 2}, Custom, 2, (5, 0, 1), (None,))
        raised(self, BadCap, {"pin": 2}, Custom, 2, (5, 0, None, -1), (None,))
        raised(self, BadCap, {"pin": 0}, Custom, 0, [1], (None,))
        for cap in NO_NUMBERS + (-1,):
            raised(self, BadCap, {"pin": 1}, Custom, 3, (0, cap, -1, 4), (None,))
            raised(self, BadCap, {"pin": 0}, Custom, 3, (cap,), (None,))

    def test_bad_pairs(self):
        wrong = [None, 5, "01", (), [], (0,), (0, 1, 2), (1, 1), (0, 3), (-1, 0), {0: 1, 1: 2}, {0, 1}, ((0, 1),)]
        for number in NO_NUMBERS:
            wrong += [(number, 2), [2, number]]
        for pair in wrong:
            with self.subTest(pair=pair):
                error = raised(self, BadPair, {"pair": pair}, Custom, 3, (1, 1, 1), [(0, 2), pair, None])
                self.assertIs(pair, error.pair)
        raised(self, BadPair, {"pair": (0, 1)}, Custom, 1, (3,), [(0, 1)])


class Contains(unittest.TestCase):

    def test_caps(self):
        custom = Custom(3, (2, 1, 0))
        self.assertIs(True, Lot(3) in custom)
        self.assertIs(True, Lot(3, [(0, 1, 1)]) in custom)
        self.assertIs(False, Lot(3, [(0, 1, 2)]) in custom)
        self.assertIs(False, Lot(3, [(0, 2, 1)]) in custom)
        self.assertIs(True, Lot(3, [(0, 1, 1)]) not in Custom(3, (0, 1, 1)))

    def test_barred_pairs(self):
        custom = Custom(4, (9, 9, 9, 9), [(2, 0), (1, 3)])
        for a, b in itertools.combinations(range(4), 2):
            self.assertIs((a, b) not in ((0, 2), (1, 3)), Lot(4, [(a, b, 1)]) in custom)
        self.assertIs(False, Lot(4, [(0, 1, 1), (0, 2, 1)]) in custom)

    def test_by_the_definition(self):
        rng = random.Random(740)
        for _ in range(20):
            custom = random_custom(rng, rng.randint(0, 4), 2, 2)
            for lot in all_lots(custom.pins, 3):
                self.assertIs(keeps(custom, lot), lot in custom)

    def test_without_pins(self):
        self.assertIs(True, Lot(0) in Custom(0, ()))
        self.assertIs(True, Lot(1) in Custom(1, (0,)))

    def test_unlike_pins(self):
        raised(self, UnlikePins, {"one": 2, "other": 3}, Custom(2, (1, 1)).__contains__, Lot(3))


class MostAcross(unittest.TestCase):

    def checked(self, custom, first, last):
        most = most_across(custom, first, last)
        lot = busiest(custom, first, last)
        self.assertIs(Lot, lot.__class__)
        self.assertEqual(custom.pins, lot.pins)
        self.assertTrue(keeps(custom, lot))
        self.assertEqual(most, lot.total())
        for a, b, _ in lot.cords:
            self.assertTrue(plain_parts(custom.pins, a, b, first, last))
        return most

    def test_few_pins(self):
        self.assertEqual(0, self.checked(Custom(0, ()), 0, 0))
        self.assertEqual(0, self.checked(Custom(1, (5,)), 0, 0))
        self.assertEqual(3, self.checked(Custom(2, (5, 3)), 0, 1))
        self.assertEqual(3, self.checked(Custom(2, (5, 3)), 1, 0))
        self.assertEqual(0, self.checked(Custom(2, (5, 3), [(1, 0)]), 1, 0))

    def test_the_same_gap(self):
        custom = Custom(5, (1, 2, 3, 4, 5))
        for gap in range(5):
            self.assertEqual(0, self.checked(custom, gap, gap))
            self.assertEqual(Lot(5), busiest(custom, gap, gap))

    def test_caps_of_0(self):
        self.assertEqual(0, self.checked(Custom(4, (0, 5, 0, 0)), 0, 2))
        self.assertEqual(5, self.checked(Custom(4, (0, 5, 0, 9)), 0, 2))

    def test_all_pairs_barred(self):
        custom = Custom(6, [BIG] * 6, list(itertools.combinations(range(6), 2)))
        for first, last in itertools.product(range(6), repeat=2):
            self.assertEqual(0, self.checked(custom, first, last))

    def test_wishes_that_must_give_way(self):
        # One of the pins 0 and 1 may only be joined to one pin, and the other one must leave that to it.
        for pair, due in (((0, 2), [(0, 3, 1), (1, 2, 1)]), ((0, 3), [(0, 2, 1), (1, 3, 1)]),
                          ((1, 2), [(0, 2, 1), (1, 3, 1)]), ((1, 3), [(0, 3, 1), (1, 2, 1)])):
            custom = Custom(4, (1, 1, 1, 1), [pair])
            self.assertEqual(2, self.checked(custom, 3, 1))
            self.assertEqual(Lot(4, due), busiest(custom, 3, 1))
            self.assertEqual(Lot(4, due), busiest(custom, 1, 3))

    def test_a_long_row_of_wishes_that_give_way(self):
        # Each pin near the gap may send to its own pin and the next one only.
        for many in range(2, 20):
            far = [2 * many - 1 - pin for pin in range(many)]
            barred = [(pin, other) for pin in range(many) for place, other in enumerate(far)
                      if place not in (pin, pin + 1)]
            for caps in ([1] * 2 * many, [BIG] * 2 * many, list(range(1, 2 * many + 1))):
                custom = Custom(2 * many, caps, barred)
                if many <= 10:
                    self.assertEqual(least_cover(custom, 2 * many - 1, many - 1),
                                     self.checked(custom, 2 * many - 1, many - 1))
                if caps[0] == caps[1]:
                    self.assertEqual(caps[0] * many, self.checked(custom, 2 * many - 1, many - 1))

    def test_by_the_definition(self):
        rng = random.Random(750)
        for _ in range(25):
            custom = random_custom(rng, rng.randint(0, 4), 2, 2)
            lots = [lot for lot in all_lots(custom.pins, 4) if keeps(custom, lot)]
            tables = [plain_table(lot) for lot in lots]
            for first, last in itertools.product(range(max(custom.pins, 1)), repeat=2):
                self.assertEqual(max(table[first][last] for table in tables), self.checked(custom, first, last))

    def test_against_the_least_cover(self):
        rng = random.Random(751)
        for _ in range(150):
            pins = rng.randint(2, 9)
            custom = random_custom(rng, pins, rng.choice((1, 3, BIG)), rng.randint(0, pins * pins // 2))
            first, last = rng.randrange(pins), rng.randrange(pins)
            self.assertEqual(least_cover(custom, first, last), self.checked(custom, first, last))
            self.assertEqual(most_across(custom, first, last), most_across(custom, last, first))

    def test_great_customs(self):
        rng = random.Random(752)
        for many in (0, 10, 200, 500, 700, 780):
            custom = random_custom(rng, 40, BIG, many)
            for _ in range(20):
                self.checked(custom, rng.randrange(40), rng.randrange(40))
        self.assertEqual(20 * BIG, self.checked(Custom(40, [BIG] * 40), 5, 25))
        self.assertEqual(20 * BIG, self.checked(Custom(40, [BIG] * 40), 25, 5))
        self.assertEqual(BIG, self.checked(Custom(40, [BIG] * 40), 7, 8))

    def test_bad_gaps(self):
        for call in (most_across, busiest):
            for gap in NO_NUMBERS + (-1, 3):
                raised(self, BadGap, {"gap": gap}, call, Custom(3, (1, 1, 1)), gap, -5)
                raised(self, BadGap, {"gap": gap}, call, Custom(3, (1, 1, 1)), 2, gap)
            raised(self, BadGap, {"gap": 1}, call, Custom(0, ()), 0, 1)
            raised(self, BadGap, {"gap": 1}, call, Custom(1, (4,)), first=1, last=2)


class Breach(unittest.TestCase):

    def checked(self, board, custom, spare=0):
        """Checks against the definition, and that the answer tells what it is for."""
        held = fence_table(board)
        due = None
        for first, last in itertools.combinations(range(len(held)), 2):
            most = most_across(custom, first, last)
            if due is None and most > 0 and most + spare > held[first][last]:
                due = (first, last)
        found = breach(board, custom, spare=spare)
        self.assertEqual(due, found)
        if found is not None:
            self.assertIs(tuple, found.__class__)
            self.assertIs(False, survives(board, busiest(custom, *found), spare))
        return found

    def test_star(self):
        self.assertIs(None, self.checked(STAR, Custom(4, (1, 1, 1, 1))))
        self.assertEqual((0, 1), self.checked(STAR, Custom(4, (1, 2, 1, 1))))
        self.assertEqual((0, 1), self.checked(STAR, Custom(4, (1, 1, 1, 1)), 1))
        self.assertIs(None, self.checked(STAR, Custom(4, (1, 2, 1, 1), [(0, 1), (1, 2), (3, 1)])))
        # Pin 1 can only be joined to pin 3, which has a cap of 1.
        self.assertIs(None, self.checked(STAR, Custom(4, (1, 2, 1, 1), [(0, 1), (1, 2)])))

    def test_spare_is_left_out(self):
        self.assertIs(None, breach(STAR, Custom(4, (1, 1, 1, 1))))
        self.assertEqual((0, 1), breach(board=STAR, custom=Custom(4, (1, 1, 1, 1)), spare=1))
        with self.assertRaises(TypeError):
            breach(STAR, Custom(4, (1, 1, 1, 1)), 0)

    def test_gaps_between_which_nothing_is_wished(self):
        # Nothing passes, so no spare unit is missed there.
        for spare in (0, 1, BIG):
            self.assertIs(None, self.checked(STAR, Custom(4, (0, 0, 0, 0)), spare))
            self.assertIs(None, self.checked(STAR, Custom(4, (9, 0, 0, 0)), spare))
            self.assertIs(None, self.checked(Board(3, ((), (), ()), ()), Custom(3, (5, 5, 0), [(0, 1)]), spare))
        self.assertEqual((1, 2), self.checked(STAR, Custom(4, (0, 0, 1, 1)), 1))

    def test_without_pins_or_tracks(self):
        self.assertIs(None, self.checked(EMPTY, Custom(0, ()), 5))
        self.assertIs(None, self.checked(Board(1, ((),), ()), Custom(1, (4,)), 5))
        self.assertEqual((0, 1), self.checked(Board(3, ((), (), ()), ()), Custom(3, (1, 1, 1))))

    def test_all_lots_of_the_custom(self):
        rng = random.Random(760)
        for board in random_boards(760, 40, pins=4, length=25, even=False):
            custom = random_custom(rng, board.pins, 2, 1)
            lots = [lot for lot in all_lots(board.pins, 4) if keeps(custom, lot)]
            for spare in (0, 1, 2):
                found = self.checked(board, custom, spare)
                self.assertIs(found is None, all(survives(board, lot, spare) for lot in lots))

    def test_none_means_that_all_can_be_laid_in_halves(self):
        rng = random.Random(761)
        answers = []
        for board in random_boards(761, 80, pins=4, length=30, even=False):
            custom = random_custom(rng, board.pins, 2, 2)
            found = self.checked(board, custom)
            answers.append(found)
            if found is None:
                for lot in all_lots(board.pins, 2):
                    if keeps(custom, lot):
                        lay_halves(board, lot)
            else:
                with self.assertRaises(Barred):
                    lay_halves(board, busiest(custom, *found))
        self.assertIn(None, answers)

    def test_random_boards(self):
        rng = random.Random(762)
        for board in (*random_boards(762, 150, pins=8, length=60, even=False), *SHAPES):
            self.checked(board, random_custom(rng, board.pins, 4, rng.randint(0, 20)), rng.choice((0, 0, 1, 3)))

    def test_great_boards(self):
        rng = random.Random(763)
        board = grid_board(rng, 4, 16, 3) * BIG
        self.assertIs(None, self.checked(board, Custom(40, [BIG // 20] * 40)))
        self.checked(board, random_custom(rng, 40, BIG, 700), BIG)
        self.checked(ring_board(40) * BIG, random_custom(rng, 40, BIG, 300), 5)
        # Only the barred pairs keep the custom from a breach.
        barred = [(a, b) for a, b in itertools.combinations(range(40), 2) if (a + b) % 3]
        self.assertIs(None, self.checked(ring_board(40) * BIG, Custom(40, [3 * BIG // 40] * 40, barred)))

    def test_unlike_pins(self):
        raised(self, UnlikePins, {"one": 4, "other": 3}, breach, STAR, Custom(3, (1, 1, 1)), spare=-1)
        raised(self, UnlikePins, {"one": 0, "other": 1}, breach, EMPTY, Custom(1, (1,)))

    def test_bad_numbers(self):
        for spare in NO_NUMBERS + (-1,):
            raised(self, BadNumber, {"number": spare}, breach, STAR, Custom(4, (9, 9, 9, 9)), spare=spare)
            raised(self, BadNumber, {"number": spare}, breach, EMPTY, Custom(0, ()), spare=spare)


class Kinds(unittest.TestCase):

    def test_lists_mean_the_same(self):
        one = Custom(4, (1, 2, 3, 4), ((0, 1), (3, 2)))
        two = Custom(4, as_lists((1, 2, 3, 4)), as_lists(((0, 1), (3, 2))))
        self.assertEqual((one.pins, one.caps, one.barred), (two.pins, two.caps, two.barred))
