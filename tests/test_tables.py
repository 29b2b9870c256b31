"""Promises [12] to [14]."""

import random
import unittest

from rimcords.errors import BadPins, BadTable, NoLot, UnlikePins
from rimcords.lots import Lot
from rimcords.tables import bar, lot_of, odd, table_of
from tests.helpers import (
    BIG, NO_NUMBERS, all_lots, as_lists, full_lot, only_tuples, plain_table, raised, random_lot,
)


class TableOf(unittest.TestCase):

    def test_of_the_document(self):
        self.assertEqual(((0, 1, 1), (1, 0, 0), (1, 0, 0)), table_of(Lot(3, [(0, 1, 1)])))

    def test_small_rims(self):
        self.assertEqual(((0,),), table_of(Lot(0)))
        self.assertEqual(((0,),), table_of(Lot(1)))
        self.assertEqual(((0, 4), (4, 0)), table_of(Lot(2, [(0, 1, 4)])))
        self.assertEqual(((0, 0), (0, 0)), table_of(Lot(2)))

    def test_by_the_definition(self):
        rng = random.Random(1)
        for _ in range(200):
            lot = random_lot(rng, rng.randint(0, 8), 8, rng.choice([1, 3, BIG]))
            self.assertEqual(plain_table(lot), table_of(lot))
            self.assertEqual(plain_table(lot), lot.table)
            self.assertTrue(only_tuples(table_of(lot)))


class LotOf(unittest.TestCase):

    def test_back_again(self):
        rng = random.Random(2)
        for _ in range(200):
            lot = random_lot(rng, rng.randint(0, 8), 8, rng.choice([1, 3, BIG]))
            self.assertEqual(lot, lot_of(lot.pins, table_of(lot)))
            self.assertEqual(lot, lot_of(lot.pins, as_lists(table_of(lot))))
        self.assertEqual(full_lot(40), lot_of(40, full_lot(40).table))

    def test_small_rims(self):
        self.assertEqual(Lot(0), lot_of(0, ((0,),)))
        self.assertEqual(Lot(1), lot_of(1, [[0]]))
        self.assertEqual(Lot(2, [(0, 1, 3)]), lot_of(2, ((0, 3), (3, 0))))

    def test_bad_pins_come_first(self):
        for pins in NO_NUMBERS + (-1,):
            raised(self, BadPins, {"pins": pins}, lot_of, pins, None)

    def wrong(self, pins, table, row, column):
        raised(self, BadTable, {"row": row, "column": column}, lot_of, pins, table)

    def test_missing(self):
        for pins in (0, 1, 3):
            for table in (None, 5, "000", {}, (), []):
                self.wrong(pins, table, 0, 0)
        self.wrong(3, ((0, 1, 1), (1, 0, 0)), 2, 0)
        self.wrong(3, ((0, 1, 1), 7, (1, 0, 0)), 1, 0)
        self.wrong(3, ((0, 1, 1), "100", (1, 0, 0)), 1, 0)
        self.wrong(3, ((0, 1, 1), (1, 0), (1, 0, 0)), 1, 2)
        self.wrong(3, ((0, 1, 1), (), (1, 0, 0)), 1, 0)

    def test_no_numbers(self):
        for number in NO_NUMBERS + (-1,):
            self.wrong(3, ((0, 1, number), (1, 0, 0), (number, 0, 0)), 0, 2)
            self.wrong(3, ((0, 1, 1), (1, 0, 0), (1, number, 0)), 2, 1)
        for number in NO_NUMBERS + (1, -1):
            self.wrong(3, ((0, 1, 1), (1, number, 0), (1, 0, 0)), 1, 1)
            self.wrong(0, ((number,),), 0, 0)

    def test_mirrored_entries(self):
        self.wrong(3, ((0, 1, 1), (2, 0, 0), (1, 0, 0)), 1, 0)
        self.wrong(3, ((0, 1, 1), (1, 0, 0), (1, 2, 0)), 2, 1)

    def test_too_long(self):
        self.wrong(3, ((0, 1, 1, 0), (1, 0, 0), (1, 0, 0)), 0, 3)
        self.wrong(3, ((0, 1, 1), (1, 0, 0, None), (1, 0, 0)), 1, 3)
        self.wrong(3, ((0, 1, 1), (1, 0, 0), (1, 0, 0), ()), 3, 0)
        self.wrong(0, ((0, 0),), 0, 1)
        self.wrong(1, ((0,), (0,)), 1, 0)

    def test_the_first_place_is_told(self):
        self.wrong(3, ((0, 1, 1), (1, 0, 0, 0), (2, 0, 0)), 1, 3)
        self.wrong(3, ((0, 1, 1), (2, 0, 0, 0), (1, 0, 0)), 1, 0)
        self.wrong(3, ((0, 1, 1), (1, 0, 0), (1, 0), (1,)), 2, 2)
        self.wrong(3, ((1, 1, 1), (2, 1, 0), (1, 0, 0)), 0, 0)
        self.wrong(3, ((0, 1, 1), (1, 0, 0), (1, 0, 0, 0), (1,)), 2, 3)

    def test_no_lot(self):
        raised(self, NoLot, {"a": 0, "b": 1, "twice": 1}, lot_of, 3, ((0, 1, 0), (1, 0, 0), (0, 0, 0)))
        raised(self, NoLot, {"a": 0, "b": 1, "twice": -2}, lot_of, 3, ((0, 0, 0), (0, 0, 2), (0, 2, 0)))
        raised(self, NoLot, {"a": 0, "b": 2, "twice": -2}, lot_of, 3, ((0, 2, 0), (2, 0, 0), (0, 0, 0)))

    def test_just_the_tables_of_lots(self):
        tables = {}
        for lot in all_lots(3, 5):
            tables[lot.table] = lot
        for x in range(3):
            for y in range(3):
                for z in range(3):
                    table = ((0, x, y), (x, 0, z), (y, z, 0))
                    if table in tables:
                        self.assertEqual(tables[table], lot_of(3, table))
                    else:
                        twices = [(0, 1, x + y - z), (0, 2, y + z - x), (1, 2, x + z - y)]
                        a, b, twice = [item for item in twices if item[2] % 2 == 1 or item[2] < 0][0]
                        raised(self, NoLot, {"a": a, "b": b, "twice": twice}, lot_of, 3, table)

    def test_the_table_is_not_changed(self):
        table = [[0, 3], [3, 0]]
        lot_of(2, table)
        self.assertEqual([[0, 3], [3, 0]], table)


class BarAndOdd(unittest.TestCase):

    def test_of_the_document(self):
        self.assertEqual((1, 3), bar(Lot(4, [(0, 1, 1), (2, 3, 1)]), Lot(4, [(0, 2, 1), (1, 3, 1)])))

    def test_none(self):
        lot = Lot(4, [(0, 2, 1), (1, 3, 1)])
        self.assertIsNone(bar(lot, lot))
        self.assertIsNone(bar(lot, Lot(4)))
        self.assertIsNone(bar(Lot(0), Lot(0)))
        self.assertIsNone(bar(Lot(1), Lot(1)))
        self.assertEqual((0, 1), bar(Lot(2), Lot(2, [(0, 1, 1)])))

    def test_bar_by_the_definition(self):
        rng = random.Random(14)
        for _ in range(300):
            lot = random_lot(rng, 6, 8, 2)
            wishes = random_lot(rng, 6, 4, 2)
            held = plain_table(lot)
            wished = plain_table(wishes)
            pairs = [(i, j) for i in range(6) for j in range(i + 1, 6) if wished[i][j] > held[i][j]]
            self.assertEqual(pairs[0] if pairs else None, bar(lot, wishes))

    def test_odd(self):
        lot = Lot(4, [(0, 1, 3), (1, 2, 2)])
        self.assertEqual((0, 1), odd(lot, Lot(4)))
        self.assertEqual((0, 1), odd(Lot(4), lot))
        self.assertEqual((), odd(lot, Lot(4, [(0, 1, 1)])))
        self.assertEqual((0, 3), odd(lot, Lot(4, [(1, 3, 1)])))
        self.assertEqual((), odd(Lot(0), Lot(0)))

    def test_unlike_pins(self):
        raised(self, UnlikePins, {"one": 2, "other": 3}, bar, Lot(2), Lot(3))
        raised(self, UnlikePins, {"one": 3, "other": 2}, odd, Lot(3), Lot(2))
