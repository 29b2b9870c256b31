"""Promises [1] and [8] to [11], the property `table` of [12], and `in` of [14]."""

import itertools
import random
import unittest

from rimcords.errors import BadCord, BadNumber, BadPin, BadPins, NotPart, UnlikePins
from rimcords.lots import Lot
from tests.helpers import BIG, NO_NUMBERS, all_lots, full_lot, only_tuples, plain_fits, plain_table, raised, random_lot


class Making(unittest.TestCase):

    def test_of_the_document(self):
        lot = Lot(4, [(2, 0, 1), (1, 3, 2), (0, 2, 1)])
        self.assertEqual(((0, 2, 2), (1, 3, 2)), lot.cords)
        self.assertEqual(4, lot.pins)

    def test_without_cords(self):
        for pins in (0, 1, 2, 40):
            self.assertEqual((), Lot(pins).cords)
            self.assertEqual((), Lot(pins, []).cords)
            self.assertEqual(pins, Lot(pins).pins)

    def test_entries_are_sorted(self):
        lot = Lot(12, [(11, 10, 1), (2, 10, 1), (2, 3, 5), (1, 11, 1)])
        self.assertEqual(((1, 11, 1), (2, 3, 5), (2, 10, 1), (10, 11, 1)), lot.cords)

    def test_lists_and_tuples_are_the_same_and_are_not_kept(self):
        entry = [0, 1, 2]
        cords = [entry, (1, 2, 1)]
        lot = Lot(3, cords)
        entry[2] = 9
        cords.append((0, 2, 1))
        self.assertEqual(((0, 1, 2), (1, 2, 1)), lot.cords)
        self.assertTrue(only_tuples(lot.cords))
        self.assertEqual(lot, Lot(3, ((0, 1, 2), [1, 2, 1])))

    def test_arguments_are_not_changed(self):
        cords = [[2, 0, 1], [1, 0, 1]]
        Lot(3, cords)
        self.assertEqual([[2, 0, 1], [1, 0, 1]], cords)

    def test_bad_pins(self):
        for pins in NO_NUMBERS + (-1,):
            raised(self, BadPins, {"pins": pins}, Lot, pins)
            raised(self, BadPins, {"pins": pins}, Lot, pins, [(0, 0, 0)])

    def test_bad_cords(self):
        wrong = [None, 5, "012", {}, (), (0, 1), (0, 1, 1, 1), (0, 3, 1), (-1, 0, 1), (1, 1, 1), (0, 1, 0),
                 (0, 1, -1)]
        for number in NO_NUMBERS:
            wrong += [(number, 2, 1), (2, number, 1), (1, 2, number), [1, 2, number]]
        for entry in wrong:
            with self.subTest(entry=entry):
                error = raised(self, BadCord, {"entry": entry}, Lot, 3, [(0, 1, 1), entry, (9, 9, 9)])
                self.assertIs(entry, error.entry)

    def test_no_cord_without_two_pins(self):
        raised(self, BadCord, {"entry": (0, 1, 1)}, Lot, 1, [(0, 1, 1)])
        raised(self, BadCord, {"entry": (0, 0, 1)}, Lot, 1, [(0, 0, 1)])
        raised(self, BadCord, {"entry": (0, 1, 1)}, Lot, 0, [(0, 1, 1)])


class Reading(unittest.TestCase):

    def setUp(self):
        self.lot = Lot(5, [(0, 2, 3), (4, 2, 1), (1, 3, BIG)])

    def test_between(self):
        self.assertEqual(3, self.lot.between(0, 2))
        self.assertEqual(3, self.lot.between(2, 0))
        self.assertEqual(BIG, self.lot.between(3, 1))
        self.assertEqual(0, self.lot.between(0, 1))
        self.assertEqual(0, self.lot.between(2, 2))

    def test_between_no_pins(self):
        for pin in NO_NUMBERS + (-1, 5):
            raised(self, BadPin, {"pin": pin}, self.lot.between, pin, 99)
            raised(self, BadPin, {"pin": pin}, self.lot.between, 0, pin)
            raised(self, BadPin, {"pin": pin}, self.lot.between, pin, pin)
        raised(self, BadPin, {"pin": 0}, Lot(0).between, 0, 0)
        self.assertEqual(0, Lot(1).between(0, 0))

    def test_ends(self):
        self.assertEqual([3, BIG, 4, BIG, 1], [self.lot.ends(pin) for pin in range(5)])
        self.assertEqual(0, Lot(1).ends(0))
        for pin in NO_NUMBERS + (-1, 5):
            raised(self, BadPin, {"pin": pin}, self.lot.ends, pin)
        raised(self, BadPin, {"pin": 0}, Lot(0).ends, 0)

    def test_total_length_and_iteration(self):
        self.assertEqual(BIG + 4, self.lot.total())
        self.assertEqual(3, len(self.lot))
        self.assertEqual([(0, 2, 3), (1, 3, BIG), (2, 4, 1)], list(self.lot))
        self.assertEqual((0, 0, []), (Lot(3).total(), len(Lot(3)), list(Lot(3))))

    def test_table(self):
        self.assertEqual(((0, 1, 1), (1, 0, 0), (1, 0, 0)), Lot(3, [(0, 1, 1)]).table)
        self.assertEqual(((0,),), Lot(0).table)
        self.assertEqual(((0,),), Lot(1).table)
        self.assertEqual(((0, 7), (7, 0)), Lot(2, [(0, 1, 7)]).table)
        self.assertEqual(plain_table(self.lot), self.lot.table)
        self.assertTrue(only_tuples(self.lot.table))


class Operators(unittest.TestCase):

    def test_plus(self):
        one = Lot(4, [(0, 2, 3), (1, 3, 1)])
        other = Lot(4, [(0, 1, 1), (1, 3, 2)])
        both = one + other
        self.assertEqual(((0, 1, 1), (0, 2, 3), (1, 3, 3)), both.cords)
        self.assertEqual(4, both.pins)
        self.assertEqual(((0, 2, 3), (1, 3, 1)), one.cords)
        self.assertEqual(one, one + Lot(4))

    def test_minus(self):
        one = Lot(4, [(0, 2, 3), (1, 3, 2)])
        self.assertEqual(((0, 2, 1), (1, 3, 2)), (one - Lot(4, [(0, 2, 2)])).cords)
        self.assertEqual(((1, 3, 2),), (one - Lot(4, [(0, 2, 3)])).cords)
        self.assertEqual(Lot(4), one - one)
        self.assertEqual(((0, 2, 3), (1, 3, 2)), one.cords)

    def test_minus_what_is_not_there(self):
        one = Lot(5, [(0, 1, 1), (1, 3, 2), (2, 3, 1)])
        other = Lot(5, [(3, 2, 2), (3, 1, 3), (0, 1, 1), (3, 4, 1)])
        raised(self, NotPart, {"a": 1, "b": 3}, lambda: one - other)
        raised(self, NotPart, {"a": 0, "b": 4}, lambda: one - Lot(5, [(4, 0, 1)]))

    def test_unlike_pins(self):
        raised(self, UnlikePins, {"one": 2, "other": 3}, lambda: Lot(2) + Lot(3))
        raised(self, UnlikePins, {"one": 2, "other": 3}, lambda: Lot(2) - Lot(3, [(0, 1, 1)]))
        raised(self, UnlikePins, {"one": 3, "other": 0}, lambda: Lot(3) - Lot(0))

    def test_times(self):
        one = Lot(4, [(0, 2, 3), (1, 3, BIG)])
        self.assertEqual(((0, 2, 6), (1, 3, 2 * BIG)), (one * 2).cords)
        self.assertEqual(one, one * 1)
        self.assertEqual(Lot(4), one * 0)
        self.assertEqual(BIG * BIG, (one * BIG).between(1, 3))
        for number in NO_NUMBERS + (-1,):
            raised(self, BadNumber, {"number": number}, lambda: one * number)

    def test_equal(self):
        one = Lot(3, [(0, 1, 2)])
        self.assertIs(True, one == Lot(3, [[1, 0, 1], [0, 1, 1]]))
        self.assertIs(False, one == Lot(4, [(0, 1, 2)]))
        self.assertIs(False, one == Lot(3, [(0, 1, 1)]))
        self.assertIs(False, one == Lot(3, [(0, 2, 2)]))
        self.assertIs(False, Lot(0) == Lot(1))
        self.assertIs(True, one != Lot(3))
        for other in (None, 3, ((0, 1, 2),), "lot"):
            self.assertIs(False, one == other)

    def test_sums_of_tables(self):
        rng = random.Random(12)
        for pins in range(2, 9):
            one = random_lot(rng, pins, 5, BIG)
            other = random_lot(rng, pins, 5, BIG)
            due = tuple(tuple(map(sum, zip(*rows))) for rows in zip(one.table, other.table))
            self.assertEqual(due, (one + other).table)


class Fitting(unittest.TestCase):

    def test_of_the_document(self):
        crossing = Lot(4, [(0, 2, 1), (1, 3, 1)])
        self.assertIs(True, Lot(4, [(0, 1, 1), (2, 3, 1)]) in crossing)
        self.assertIs(False, crossing in Lot(4, [(0, 1, 1), (2, 3, 1)]))

    def test_parity_counts(self):
        self.assertIs(False, Lot(3, [(0, 1, 1)]) in Lot(3, [(0, 1, 2)]))
        self.assertIs(True, Lot(3, [(0, 1, 1)]) in Lot(3, [(0, 1, 3)]))
        self.assertIs(True, Lot(3) in Lot(3, [(0, 1, BIG)]))

    def test_on_small_rims(self):
        self.assertIs(True, Lot(0) in Lot(0))
        self.assertIs(True, Lot(1) in Lot(1))

    def test_unlike_pins(self):
        raised(self, UnlikePins, {"one": 3, "other": 2}, lambda: Lot(2) in Lot(3))

    def test_by_the_definition(self):
        lots = all_lots(4, 3)
        for lot, wishes in itertools.product(lots[::3], lots[::2]):
            self.assertIs(plain_fits(wishes, lot), wishes in lot)

    def test_an_order(self):
        lots = [lot for lot in all_lots(4, 3) if lot.ends(0) == 2]
        for one in lots:
            self.assertIn(one, one)
            below = [other for other in lots if other in one]
            for other in below:
                self.assertEqual(one == other, one in other)
                for third in lots:
                    if third in other:
                        self.assertIn(third, one)


class Renumbering(unittest.TestCase):

    def test_turned(self):
        lot = Lot(5, [(0, 2, 3), (3, 4, 1)])
        self.assertEqual(((0, 4, 1), (1, 3, 3)), lot.turned(1).cords)
        self.assertEqual(((1, 4, 3), (2, 3, 1)), lot.turned(-1).cords)
        self.assertEqual(lot, lot.turned(0))
        self.assertEqual(lot, lot.turned(-5))
        self.assertEqual(lot.turned(3), lot.turned(5 * 10 ** 17 + 3))
        self.assertEqual(lot.turned(2), lot.turned(-5 * 10 ** 17 + 2))
        self.assertEqual(lot, lot.turned(10 ** 18).turned(-10 ** 18))
        self.assertEqual(5, lot.turned(1).pins)

    def test_mirrored(self):
        lot = Lot(5, [(0, 2, 3), (3, 4, 1)])
        self.assertEqual(((0, 1, 1), (2, 4, 3)), lot.mirrored().cords)
        self.assertEqual(5, lot.mirrored().pins)
        self.assertEqual(((0, 1, 4),), Lot(2, [(0, 1, 4)]).mirrored().cords)

    def test_small_rims(self):
        for pins in (0, 1):
            self.assertEqual(Lot(pins), Lot(pins).turned(7))
            self.assertEqual(Lot(pins), Lot(pins).mirrored())

    def test_great_lots(self):
        lot = full_lot(40)
        self.assertEqual(lot, lot.turned(-10 ** 18))
        self.assertEqual(lot, lot.mirrored())
        self.assertEqual(780 * BIG, lot.total())
        self.assertEqual(39 * BIG, lot.ends(17))
        self.assertIn(lot, lot)
        self.assertEqual(400 * BIG, lot.table[0][20])
