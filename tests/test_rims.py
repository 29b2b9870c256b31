"""Promises [4] to [7]."""

import itertools
import unittest

from rimcords.rims import arc, crosses, gaps, parts
from tests.helpers import plain_arc, plain_parts


class Rims(unittest.TestCase):

    def test_gaps(self):
        self.assertEqual([1, 1, 2, 3, 40], [gaps(pins) for pins in (0, 1, 2, 3, 40)])

    def test_arc_of_the_document(self):
        self.assertEqual((4, 0, 1), arc(5, 3, 1))

    def test_arcs_without_pins_and_with_few(self):
        self.assertEqual((), arc(0, 0, 0))
        self.assertEqual((), arc(1, 0, 0))
        self.assertEqual((1,), arc(2, 0, 1))
        self.assertEqual((0,), arc(2, 1, 0))
        self.assertEqual((), arc(2, 1, 1))

    def test_arcs_by_going_round(self):
        for pins in range(1, 8):
            for first, last in itertools.product(range(pins), repeat=2):
                self.assertEqual(plain_arc(pins, first, last), arc(pins, first, last))

    def test_parts(self):
        self.assertIs(True, parts(5, 0, 3, 3, 1))
        self.assertIs(False, parts(5, 4, 1, 3, 1))
        self.assertIs(False, parts(5, 2, 3, 3, 1))
        self.assertIs(False, parts(5, 4, 4, 3, 1))
        self.assertIs(False, parts(1, 0, 0, 0, 0))

    def test_parts_in_any_order(self):
        for pins in range(1, 6):
            for one, other, first, last in itertools.product(range(pins), repeat=4):
                due = plain_parts(pins, one, other, first, last)
                self.assertIs(due, parts(pins, one, other, first, last))
                self.assertIs(due, parts(pins, other, one, first, last))
                self.assertIs(due, parts(pins, one, other, last, first))

    def test_crosses(self):
        self.assertIs(True, crosses(0, 2, 1, 3))
        self.assertIs(True, crosses(2, 0, 1, 3))
        self.assertIs(True, crosses(3, 1, 2, 0))
        self.assertIs(False, crosses(0, 1, 2, 3))
        self.assertIs(False, crosses(0, 3, 1, 2))

    def test_crosses_only_with_four_pins(self):
        for four in itertools.product(range(5), repeat=4):
            a, b, c, d = four
            low, high = sorted((a, b))
            due = len(set(four)) == 4 and (low < c < high) != (low < d < high)
            self.assertIs(due, crosses(*four))
