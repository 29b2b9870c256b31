"""Promise [20]."""

import itertools
import random
import unittest

from rimcords.errors import Barred, OddEnds, UnlikePins
from rimcords.lots import Lot
from rimcords.moves import is_run, moved, moves
from rimcords.reaching import reach
from rimcords.tables import bar, odd
from tests.helpers import all_lots, only_tuples, plain_table, raised, random_lot


class Reach(unittest.TestCase):

    def reached(self, lot, wishes):
        course = reach(lot, wishes)
        self.assertTrue(only_tuples(course))
        self.assertTrue(all(isinstance(move, tuple) and len(move) == 4 for move in course))
        self.assertIs(True, is_run(lot, course, wishes))
        return course

    def test_one_move(self):
        self.assertEqual(1, len(self.reached(Lot(4, [(0, 2, 1), (1, 3, 1)]), Lot(4, [(0, 3, 1), (1, 2, 1)]))))
        self.assertEqual(1, len(self.reached(Lot(2, [(0, 1, 2)]), Lot(2))))
        self.assertEqual(1, len(self.reached(Lot(3, [(0, 1, 1), (1, 2, 1)]), Lot(3, [(0, 2, 1)]))))

    def test_equal_lots(self):
        for lot in (Lot(0), Lot(1), Lot(2), Lot(5, [(0, 2, 3), (1, 3, 2)])):
            self.assertEqual((), reach(lot, lot))

    def test_all_small_lots(self):
        for pins, most in ((2, 6), (3, 5), (4, 4), (5, 3)):
            lots = all_lots(pins, most)
            for lot, wishes in itertools.product(lots, repeat=2):
                if wishes in lot:
                    self.reached(lot, wishes)

    def test_even_lots(self):
        lot = Lot(6, [(0, 3, 2), (1, 4, 2), (2, 5, 2)])
        for wishes in all_lots(6, 3):
            if wishes * 2 in lot:
                self.reached(lot, wishes * 2)

    def test_random_descents(self):
        rng = random.Random(20)
        for _ in range(150):
            lot = random_lot(rng, rng.randint(2, 9), rng.randint(0, 12), 3)
            wishes = lot
            for _ in range(rng.randint(0, 15)):
                found = list(moves(wishes))
                if found:
                    wishes = moved(wishes, rng.choice(found))
            self.reached(lot, wishes)

    def test_great_lots(self):
        rng = random.Random(21)
        lot = random_lot(rng, 40, 1000)
        odds = odd(lot, Lot(40))
        self.reached(lot, Lot(40, [(odds[at], odds[at + 1], 1) for at in range(0, len(odds), 2)]))
        self.reached(Lot(40, [(pin, pin + 20, 50) for pin in range(20)]),
                     Lot(40, [(pin, 39 - pin, 50) for pin in range(20)]))
        self.reached(Lot(4, [(0, 2, 500), (1, 3, 500)]), Lot(4, [(0, 1, 500), (2, 3, 500)]))
        self.reached(Lot(2, [(0, 1, 1000)]), Lot(2))

    def test_great_lots_laid_apart(self):
        lot = random_lot(random.Random(22), 40, 1000)
        wishes = lot
        for _ in range(400):
            found = next(filter(lambda move: move[1] != move[2], moves(wishes)))
            wishes = moved(wishes, found)
        self.reached(lot, wishes)

    def test_unlike_pins(self):
        raised(self, UnlikePins, {"one": 2, "other": 3}, reach, Lot(2), Lot(3))
        raised(self, UnlikePins, {"one": 2, "other": 3}, reach, Lot(2), Lot(3, [(0, 1, 9)]))

    def test_odd_ends_come_before_the_bar(self):
        lot = Lot(4, [(0, 1, 1)])
        raised(self, OddEnds, {"pins": (0, 1, 2, 3)}, reach, lot, Lot(4, [(2, 3, 9)]))
        raised(self, OddEnds, {"pins": (1, 3)}, reach, lot, Lot(4, [(0, 3, 1)]))
        raised(self, OddEnds, {"pins": (0, 1)}, reach, lot, Lot(4))

    def test_barred(self):
        lot = Lot(4, [(0, 1, 1), (2, 3, 1)])
        wishes = Lot(4, [(0, 2, 1), (1, 3, 1)])
        raised(self, Barred, {"first": 1, "last": 3, "held": 0, "wished": 2}, reach, lot, wishes)
        raised(self, Barred, {"first": 0, "last": 1, "held": 1, "wished": 3}, reach,
               Lot(2, [(0, 1, 1)]), Lot(2, [(0, 1, 3)]))

    def test_errors_by_the_definition(self):
        rng = random.Random(23)
        for _ in range(200):
            lot = random_lot(rng, 5, 4, 2)
            wishes = random_lot(rng, 5, 4, 2)
            if odd(lot, wishes):
                raised(self, OddEnds, {"pins": odd(lot, wishes)}, reach, lot, wishes)
            elif bar(lot, wishes) is not None:
                i, j = bar(lot, wishes)
                raised(self, Barred, {"first": i, "last": j, "held": plain_table(lot)[i][j],
                                      "wished": plain_table(wishes)[i][j]}, reach, lot, wishes)
            else:
                self.reached(lot, wishes)
