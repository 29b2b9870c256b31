"""Promise [21]."""

import unittest

from rimcords.belows import below
from rimcords.errors import TooMany
from rimcords.lots import Lot
from tests.helpers import all_lots, raised


class Below(unittest.TestCase):

    def test_crossing(self):
        found = [lot.cords for lot in below(Lot(4, [(0, 2, 1), (1, 3, 1)]))]
        self.assertEqual([((0, 1, 1), (2, 3, 1)), ((0, 2, 1), (1, 3, 1)), ((0, 3, 1), (1, 2, 1))], found)

    def test_two_cords(self):
        self.assertEqual([(), ((0, 1, 2),)], [lot.cords for lot in below(Lot(2, [(0, 1, 2)]))])

    def test_bare_lots(self):
        for lot in (Lot(0), Lot(1), Lot(8), Lot(4, [(0, 3, 1), (1, 2, 1)])):
            self.assertEqual([lot], list(below(lot)))

    def test_all_lots_that_fit(self):
        for pins, most, step in ((3, 5, 1), (4, 4, 3), (5, 3, 7)):
            # No move makes more cords, so no lot that fits is missing among these.
            lots = all_lots(pins, most)
            for lot in lots[::step]:
                fitting = [wishes.cords for wishes in lots if wishes in lot]
                found = list(below(lot))
                self.assertTrue(all(other.pins == pins for other in found))
                self.assertEqual(sorted(fitting), [other.cords for other in found])

    def test_six_cords_on_eight_pins(self):
        lot = Lot(8, [(0, 4, 2), (1, 5, 1), (2, 6, 1), (3, 7, 2)])
        found = list(below(lot))
        self.assertIn(lot, found)
        self.assertTrue(all(other in lot for other in found))
        self.assertEqual(sorted(other.cords for other in found), [other.cords for other in found])
        self.assertEqual(len(found), len({other.cords for other in found}))

    def test_refused_when_it_is_iterated(self):
        found = below(Lot(3, [(0, 1, 4), (1, 2, 3)]))
        raised(self, TooMany, {"number": 7}, next, found)
        raised(self, TooMany, {"number": 7}, list, below(Lot(2, [(0, 1, 7)])))
        self.assertEqual(4, len(list(below(Lot(2, [(0, 1, 6)])))))

    def test_a_generator(self):
        found = below(Lot(2, [(0, 1, 2)]))
        self.assertIs(found, iter(found))
        self.assertEqual(Lot(2), next(found))
