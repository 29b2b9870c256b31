"""Promises [23] to [29]."""

import random
import unittest

from rimcords.errors import BadGap, BadNumber, BadPin, NoPair, OddPin
from rimcords.lots import Lot
from tests.helpers import BIG, NO_NUMBERS, all_lots, full_lot, plain_fits, plain_table, raised, random_lot

LOT = Lot(4, [(0, 1, 5), (0, 2, 3), (1, 3, 2), (0, 3, 7)])


def plain_dropped_table(lot, pin):
    """The table of a lot after a pin is dropped, word by word."""
    table = plain_table(lot)
    pins = lot.pins
    left = (pin - 1) % pins
    # The old gaps of each gap of the new rim, which begins behind its pin 0.
    first = 1 if pin == 0 else 0
    olds = []
    for new in range(pins - 1):
        joined = new == (pin - 1 if pin > 0 else pins - 2)
        if joined:
            olds.append((left, pin))
        else:
            olds.append((new + first if pin == 0 or new < pin else new + 1,))

    def least(i, j):
        return min(table[i][j], table[i][left] + table[pin][j], table[i][pin] + table[left][j])

    return tuple(tuple(min(least(i, j) for i in ways for j in others) for others in olds) for ways in olds)


class Wrong(unittest.TestCase):

    def test_gaps(self):
        for pins, lot in ((4, LOT), (1, Lot(1)), (0, Lot(0))):
            for gap in NO_NUMBERS + (-1, max(pins, 1)):
                raised(self, BadGap, {"gap": gap}, lot.opened, gap)
                raised(self, BadGap, {"gap": gap}, lot.linked, gap)
                raised(self, BadGap, {"gap": gap}, lot.linked, gap, 0)
                raised(self, BadGap, {"gap": gap}, lot.merged, gap)
                if gap is not None:
                    raised(self, BadGap, {"gap": gap}, lot.beside, Lot(2), gap=gap)

    def test_pins(self):
        for pin in NO_NUMBERS + (-1, 4):
            raised(self, BadPin, {"pin": pin}, LOT.dropped, pin)
        raised(self, BadPin, {"pin": 0}, Lot(0).dropped, 0)
        raised(self, BadPin, {"pin": 1}, Lot(1).dropped, 1)

    def test_too_few_pins(self):
        for pins in (0, 1):
            raised(self, NoPair, {"pins": pins}, Lot(pins).linked, 0)
            raised(self, NoPair, {"pins": pins}, Lot(pins).linked, 0, 0)
            raised(self, NoPair, {"pins": pins}, Lot(pins).merged, 0)

    def test_numbers(self):
        for number in NO_NUMBERS + (0, -1):
            raised(self, BadNumber, {"number": number}, LOT.linked, 3, number)
            raised(self, BadNumber, {"number": number}, LOT.linked, 3, many=number)

    def test_odd_pins(self):
        lot = Lot(3, [(0, 1, 2), (1, 2, 1)])
        raised(self, OddPin, {"pin": 1}, lot.dropped, 1)
        raised(self, OddPin, {"pin": 2}, lot.dropped, 2)

    def test_gap_stands_behind_a_star(self):
        with self.assertRaises(TypeError):
            LOT.beside(Lot(1), 0)


class Opened(unittest.TestCase):

    def test_each_gap(self):
        lot = Lot(3, [(0, 1, 5), (0, 2, 3), (1, 2, 2)])
        self.assertEqual(Lot(4, [(0, 2, 5), (0, 3, 3), (2, 3, 2)]), lot.opened(0))
        self.assertEqual(Lot(4, [(0, 1, 5), (0, 3, 3), (1, 3, 2)]), lot.opened(1))
        self.assertEqual(Lot(4, [(0, 1, 5), (0, 2, 3), (1, 2, 2)]), lot.opened(2))

    def test_few_pins(self):
        self.assertEqual(Lot(1), Lot(0).opened(0))
        self.assertEqual(Lot(2), Lot(1).opened(0))
        self.assertEqual(Lot(3, [(0, 2, 4)]), Lot(2, [(0, 1, 4)]).opened(0))
        self.assertEqual(Lot(3, [(0, 1, 4)]), Lot(2, [(0, 1, 4)]).opened(1))


class Linked(unittest.TestCase):

    def test_each_gap(self):
        self.assertEqual(Lot(3, [(0, 1, 1)]), Lot(3).linked(0))
        self.assertEqual(Lot(3, [(1, 2, 4)]), Lot(3).linked(1, 4))
        self.assertEqual(Lot(3, [(0, 2, BIG)]), Lot(3).linked(2, many=BIG))

    def test_adds(self):
        self.assertEqual(LOT + Lot(4, [(1, 2, 1)]), LOT.linked(1))
        self.assertEqual(LOT + Lot(4, [(0, 3, 2)]), LOT.linked(3, 2))

    def test_two_pins(self):
        self.assertEqual(Lot(2, [(0, 1, 3)]), Lot(2).linked(0, 3))
        self.assertEqual(Lot(2, [(0, 1, 3)]), Lot(2).linked(1, 3))


class Merged(unittest.TestCase):

    def test_each_gap(self):
        self.assertEqual(Lot(3, [(0, 1, 3), (0, 2, 9)]), LOT.merged(0))
        self.assertEqual(Lot(3, [(0, 1, 8), (0, 2, 7), (1, 2, 2)]), LOT.merged(1))
        self.assertEqual(Lot(3, [(0, 1, 5), (0, 2, 10), (1, 2, 2)]), LOT.merged(2))
        self.assertEqual(Lot(3, [(0, 1, 7), (0, 2, 3)]), LOT.merged(3))

    def test_two_pins(self):
        for gap in (0, 1):
            self.assertEqual(Lot(1), Lot(2, [(0, 1, 5)]).merged(gap))


class Dropped(unittest.TestCase):

    def test_of_the_document(self):
        self.assertEqual(((0, 1, 1),), Lot(3, [(0, 1, 1), (1, 2, 1)]).dropped(1).cords)

    def test_few_pins(self):
        self.assertEqual(Lot(0), Lot(1).dropped(0))
        self.assertEqual(Lot(1), Lot(2, [(0, 1, 2)]).dropped(0))
        self.assertEqual(Lot(1), Lot(2, [(0, 1, 2)]).dropped(1))

    def test_a_pin_without_cords(self):
        self.assertEqual(Lot(3, [(0, 1, 3), (1, 2, 1)]), Lot(4, [(0, 2, 3), (2, 3, 1)]).dropped(1))
        self.assertEqual(Lot(3, [(1, 2, 3)]), Lot(4, [(2, 3, 3)]).dropped(0))

    def test_crossing_a_cord_twice(self):
        # The two cords at pin 0 are not simply joined: that one would cross the cord from 1 to 4 twice.
        lot = Lot(5, [(0, 2, 1), (0, 3, 1), (1, 4, 1)])
        self.assertEqual(Lot(4, [(0, 2, 1), (1, 3, 1)]), lot.dropped(0))

    def test_by_the_words(self):
        rng = random.Random(27)
        for _ in range(300):
            lot = random_lot(rng, rng.randint(2, 7), 6, 3)
            for pin in range(lot.pins):
                if lot.ends(pin) % 2 == 0:
                    new = lot.dropped(pin)
                    self.assertEqual(lot.pins - 1, new.pins)
                    self.assertEqual(plain_dropped_table(lot, pin), plain_table(new))

    def test_the_greatest_without_ends_at_the_pin(self):
        lots = all_lots(4, 4)
        for lot in lots:
            for pin in range(4):
                if lot.ends(pin) % 2 == 0:
                    new = lot.dropped(pin)
                    back = new.opened(pin - 1) if pin > 0 else new.opened(2).turned(1)
                    self.assertEqual(0, back.ends(pin))
                    self.assertTrue(plain_fits(back, lot))
                    for other in lots:
                        if other.ends(pin) == 0 and other in lot:
                            self.assertIn(other, back)

    def test_no_matter_which_pin_first(self):
        rng = random.Random(29)
        for _ in range(200):
            lot = random_lot(rng, 6, 7, 4)
            even = [pin for pin in range(6) if lot.ends(pin) % 2 == 0]
            for one in even:
                for other in even:
                    if one < other:
                        self.assertEqual(lot.dropped(other).dropped(one), lot.dropped(one).dropped(other - 1))

    def test_great_lots(self):
        lot = full_lot(40, 2 * BIG)
        for pin in (0, 7, 39):
            self.assertEqual(39, lot.dropped(pin).pins)
        lot = Lot(40, [(0, pin, BIG) for pin in range(1, 40)] + [(1, 39, 1)])
        new = lot.dropped(0)
        self.assertEqual(39, new.pins)
        self.assertEqual([lot.ends(pin) for pin in range(1, 40)], [new.ends(pin) for pin in range(39)])


class Beside(unittest.TestCase):

    def test_each_gap(self):
        lot = Lot(3, [(0, 1, 5), (1, 2, 2)])
        other = Lot(2, [(0, 1, 7)])
        self.assertEqual(Lot(5, [(0, 3, 5), (3, 4, 2), (1, 2, 7)]), lot.beside(other, gap=0))
        self.assertEqual(Lot(5, [(0, 1, 5), (1, 4, 2), (2, 3, 7)]), lot.beside(other, gap=1))
        self.assertEqual(Lot(5, [(0, 1, 5), (1, 2, 2), (3, 4, 7)]), lot.beside(other, gap=2))
        self.assertEqual(lot.beside(other, gap=2), lot.beside(other))
        self.assertEqual(lot.beside(other, gap=2), lot.beside(other, gap=None))

    def test_few_pins(self):
        other = Lot(2, [(0, 1, 7)])
        self.assertEqual(other, Lot(0).beside(other))
        self.assertEqual(other, Lot(0).beside(other, gap=0))
        self.assertEqual(other, other.beside(Lot(0), gap=0))
        self.assertEqual(Lot(3, [(1, 2, 7)]), Lot(1).beside(other, gap=0))
        self.assertEqual(Lot(0), Lot(0).beside(Lot(0)))

    def test_gap_of_a_lot_without_pins(self):
        raised(self, BadGap, {"gap": 1}, Lot(0).beside, Lot(2), gap=1)


class Order(unittest.TestCase):

    def test_deeds_keep_the_order(self):
        lots = [lot for lot in all_lots(4, 3)]
        other = Lot(2, [(0, 1, 1)])
        for lot in lots[::2]:
            for wishes in lots:
                if wishes in lot:
                    for gap in range(4):
                        self.assertIn(wishes.opened(gap), lot.opened(gap))
                        self.assertIn(wishes.linked(gap, 2), lot.linked(gap, 2))
                        self.assertIn(wishes.merged(gap), lot.merged(gap))
                        self.assertIn(wishes.beside(other, gap=gap), lot.beside(other, gap=gap))
                        self.assertEqual(lot.ends(gap) % 2, wishes.ends(gap) % 2)
                        if lot.ends(gap) % 2 == 0:
                            self.assertIn(wishes.dropped(gap), lot.dropped(gap))
                    self.assertIn(wishes.turned(3), lot.turned(3))
                    self.assertIn(wishes.mirrored(), lot.mirrored())

    def test_lots_are_not_changed(self):
        lot = Lot(4, LOT.cords)
        lot.opened(1), lot.linked(1), lot.merged(1), lot.beside(lot), lot.turned(1), lot.mirrored()
        Lot(4, [(0, 1, 2)]).dropped(0)
        self.assertEqual((4, LOT.cords), (lot.pins, lot.cords))
