"""Promises [68] to [73]."""

import inspect
import itertools
import random
import unittest

from rimcords.cords import cords
from rimcords.errors import BadLanes, BadPairing, UnlikeLanes
from rimcords.lots import Lot
from rimcords.moves import crossings
from rimcords.pairing import alike_rows, all_pairings, joined, rest, row_of, tight
from rimcords.rowboards import board_of
from rimcords.rows import Row
from tests.helpers import NO_NUMBERS, raised
from tests.rowhelpers import CHANGES, random_row, square_row

NO_PAIRINGS = (Lot(1), Lot(2), Lot(3, [(0, 1, 1)]), Lot(3, [(0, 1, 1), (1, 2, 1)]), Lot(2, [(0, 1, 2)]),
               Lot(4, [(0, 1, 2)]), Lot(4, [(0, 1, 1), (0, 2, 1)]))


def random_pairing(rng, pins):
    order = list(range(pins))
    rng.shuffle(order)
    return Lot(pins, [(a, b, 1) for a, b in zip(order[::2], order[1::2])])


def all_crossing(pins):
    """Each two cords cross."""
    return Lot(pins, [(pin, pin + pins // 2, 1) for pin in range(pins // 2)])


def letters_at(lanes, most=6):
    """All letters that can stand where there are so many lanes."""
    found = [(word, at) for word in ("cross", "cap") for at in range(lanes - 1)]
    return found + [("cup", at) for at in range(lanes + 1) if lanes + 2 <= most]


class Joined(unittest.TestCase):

    def test_strands_that_go_straight_down(self):
        for lanes in range(6):
            self.assertEqual(Row(lanes).pairing, joined(Row(lanes).pairing, Row(lanes).pairing, lanes))

    def test_strands_that_cross_twice(self):
        cross = Row(2, [("cross", 0)]).pairing
        self.assertEqual(cross, joined(cross, cross, 2))

    def test_closed_strands(self):
        cap, cup = Row(2, [("cap", 0)]).pairing, Row(0, [("cup", 0)]).pairing
        self.assertEqual(Lot(0), joined(cup, cap, 2))
        self.assertEqual(Lot(4, [(0, 1, 1), (2, 3, 1)]), joined(cap, cup, 0))

    def test_no_lanes(self):
        rng = random.Random(680)
        for _ in range(100):
            one, two = random_pairing(rng, 2 * rng.randint(0, 5)), random_pairing(rng, 2 * rng.randint(0, 5))
            self.assertEqual(one.beside(two), joined(one, two, 0))

    def test_all_lanes(self):
        rng = random.Random(681)
        for _ in range(100):
            pins = 2 * rng.randint(0, 4)
            less = random_pairing(rng, pins)
            more = random_pairing(rng, pins + 2 * rng.randint(0, 3))
            for first, second, top, bottom in ((less, more, 0, more.pins - pins), (more, less, more.pins - pins, 0)):
                due = (row_of(top, pins, first) >> row_of(pins, bottom, second)).pairing
                self.assertEqual(due, joined(first, second, pins))
                self.assertEqual(top + bottom, due.pins)

    def test_rows_one_behind_the_other(self):
        rng = random.Random(682)
        for _ in range(400):
            one = random_row(rng, rng.randint(0, 7), rng.randint(0, 20))
            two = random_row(rng, one.bottom, rng.randint(0, 20))
            found = joined(one.pairing, two.pairing, one.bottom)
            self.assertIs(Lot, found.__class__)
            self.assertEqual((one >> two).pairing, found)
            self.assertEqual(cords(board_of(one >> two)), found)

    def test_in_any_order(self):
        rng = random.Random(683)
        for _ in range(100):
            one = random_row(rng, rng.randint(0, 5), 10)
            two = random_row(rng, one.bottom, 10)
            three = random_row(rng, two.bottom, 10)
            left = joined(joined(one.pairing, two.pairing, one.bottom), three.pairing, two.bottom)
            right = joined(one.pairing, joined(two.pairing, three.pairing, two.bottom), one.bottom)
            self.assertEqual(left, right)

    def test_great_pairings(self):
        rng = random.Random(684)
        for lanes in (0, 1, 20, 24, 40):
            one, two = random_pairing(rng, 40), random_pairing(rng, 40)
            found = joined(one, two, lanes)
            self.assertEqual([1] * (80 - 2 * lanes), [found.ends(pin) for pin in range(found.pins)])
        due = joined(all_crossing(40), all_crossing(40), 20)
        self.assertEqual(all_crossing(40), due)

    def test_bad_pairings(self):
        good = Lot(2, [(0, 1, 1)])
        for lot in NO_PAIRINGS:
            error = raised(self, BadPairing, {"lot": lot}, joined, lot, Lot(1), None)
            self.assertIs(lot, error.lot)
            error = raised(self, BadPairing, {"lot": lot}, joined, good, lot, 99)
            self.assertIs(lot, error.lot)

    def test_bad_lanes(self):
        two, four = Lot(2, [(0, 1, 1)]), Lot(4, [(0, 1, 1), (2, 3, 1)])
        for number in NO_NUMBERS + (-1, 3, 4, 5):
            raised(self, BadLanes, {"number": number}, joined, two, four, number)
            raised(self, BadLanes, {"number": number}, joined, four, two, number)
        raised(self, BadLanes, {"number": 1}, joined, Lot(0), four, 1)
        raised(self, BadLanes, {"number": 5}, joined, four, four, lanes=5)


class AlikeRows(unittest.TestCase):

    def test_few_rows(self):
        one = Row(2, [("cross", 0)])
        self.assertIs(True, alike_rows(one, one))
        self.assertIs(True, alike_rows(one, Row(2, [("cross", 0)] * 2)))
        self.assertIs(False, alike_rows(one, Row(2)))
        self.assertIs(True, alike_rows(Row(0), Row(0, [("cup", 0), ("cap", 0)])))

    def test_the_same_pairing_with_other_lanes(self):
        rows = [Row(2, [("cap", 0)]), Row(1), Row(0, [("cup", 0)])]
        for one, two in itertools.product(rows, repeat=2):
            self.assertEqual(one.pairing, two.pairing)
            self.assertIs(one == two, alike_rows(one, two))
        self.assertIs(False, alike_rows(Row(2), Row(3)))

    def test_by_the_pairing(self):
        rng = random.Random(690)
        answers = []
        for _ in range(500):
            one, two = random_row(rng, 2, 4, 4), random_row(rng, rng.randint(1, 2), 4, 4)
            due = (one.top, one.bottom, one.pairing.cords) == (two.top, two.bottom, two.pairing.cords)
            answers.append(due)
            self.assertIs(due, alike_rows(one, two))
        self.assertGreater(answers.count(True), 20)

    def test_alike_rows_can_be_exchanged(self):
        rng = random.Random(691)
        for _ in range(200):
            one = random_row(rng, rng.randint(0, 4), rng.randint(0, 15))
            two = row_of(one.top, one.bottom, one.pairing)
            self.assertIs(True, alike_rows(one, two))
            left, right = rng.randint(0, 2), rng.randint(0, 2)
            before = random_row(rng, left + one.top + right, 12).flipped()
            behind = random_row(rng, left + one.bottom + right, 12)
            self.assertIs(True, alike_rows(before >> one.shifted(left, right) >> behind,
                                           before >> two.shifted(left, right) >> behind))


class AlikePairs(unittest.TestCase):
    """The pairs of rows of [70]."""

    def alike(self, lanes, one, two):
        """Checks two sequences of letters at all lanes where they can stand."""
        one, two = Row(lanes, one), Row(lanes, two)
        self.assertIs(True, alike_rows(one, two))
        self.assertIs(True, alike_rows(two.flipped(), one.flipped()))

    def each_lane(self, first):
        """All numbers of lanes and lanes where the letter can stand."""
        for lanes in range(9):
            many = lanes + 1 if first == "cup" else lanes - 1
            for at in range(many):
                yield lanes, at

    def test_one_crossing(self):
        for lanes, i in self.each_lane("cross"):
            self.alike(lanes, [("cross", i)] * 2, [("cross", i)])
            self.alike(lanes, [("cross", i), ("cap", i)], [("cap", i)])

    def test_three_crossings(self):
        for lanes, i in self.each_lane("cross"):
            if i + 2 < lanes:
                one, two = ("cross", i), ("cross", i + 1)
                self.alike(lanes, [one, two, one], [two, one, two])

    def test_cups(self):
        for lanes, i in self.each_lane("cup"):
            self.alike(lanes, [("cup", i), ("cross", i)], [("cup", i)])
            self.alike(lanes, [("cup", i), ("cap", i)], [])
            if i < lanes:
                self.alike(lanes, [("cup", i), ("cap", i + 1)], [])
                self.alike(lanes, [("cup", i + 1), ("cap", i)], [])

    def test_a_cap_behind_a_crossing_beside_it(self):
        for lanes, i in self.each_lane("cross"):
            if i + 2 < lanes:
                self.alike(lanes, [("cross", i), ("cap", i + 1)], [("cross", i + 1), ("cap", i)])

    def test_a_crossing_behind_a_cup_beside_it(self):
        for lanes, i in self.each_lane("cup"):
            if i < lanes:
                self.alike(lanes, [("cup", i + 1), ("cross", i)], [("cup", i), ("cross", i + 1)])

    def test_letters_that_stand_apart(self):
        for word in CHANGES:
            for lanes, i in self.each_lane(word):
                shift = {"cross": 0, "cup": 2, "cap": -2}[word]
                for other in CHANGES:
                    now = lanes + CHANGES[word]
                    for j in range(i if word == "cap" else i + 2, now + 1 if other == "cup" else now - 1):
                        self.alike(lanes, [(word, i), (other, j)], [(other, j - shift), (word, i)])

    def test_letters_that_do_not_stand_apart(self):
        self.assertIs(False, alike_rows(Row(3, [("cross", 0), ("cross", 1)]), Row(3, [("cross", 1), ("cross", 0)])))


class Tight(unittest.TestCase):

    def test_few_rows(self):
        self.assertIs(True, tight(Row(0)))
        self.assertIs(True, tight(Row(5)))
        self.assertIs(True, tight(Row(2, [("cross", 0)])))
        self.assertIs(False, tight(Row(2, [("cross", 0)] * 2)))
        self.assertIs(False, tight(Row(2, [("cross", 0), ("cap", 0)])))
        self.assertIs(True, tight(Row(4, [("cap", 0), ("cup", 2)])))
        self.assertIs(True, tight(Row(3, [("cross", 0), ("cross", 1), ("cross", 0)])))
        self.assertIs(False, tight(Row(3, [("cross", 0), ("cross", 1)] * 2)))

    def test_caps_behind_crossings(self):
        self.assertIs(True, tight(Row(3, [("cross", 0), ("cap", 1)])))
        self.assertIs(False, tight(Row(3, [("cross", 0), ("cross", 1), ("cap", 0)])))

    def test_no_row_alike_has_fewer_crossings(self):
        # For each pairing the least number of crossings among all rows with few letters and few lanes.
        for top, length, most in ((0, 6, 6), (1, 5, 5), (2, 4, 4), (3, 4, 3)):
            rows = fresh = [Row(top)]
            for _ in range(length):
                fresh = [Row(top, row.letters + (letter,)) for row in fresh for letter in letters_at(row.bottom, most)]
                rows = rows + fresh
            told = [(row, row.bottom, row.pairing) for row in rows[:5000]]
            least = {}
            for row, bottom, pairing in told:
                least[(bottom, pairing.cords)] = min(least.get((bottom, pairing.cords), 99), row.crossings())
            for row, bottom, pairing in told:
                fewest = least[(bottom, pairing.cords)]
                self.assertGreaterEqual(fewest, crossings(pairing))
                self.assertIs(row.crossings() == crossings(pairing), tight(row))
                if row.crossings() > fewest:
                    self.assertIs(False, tight(row))

    def test_boards_of_tight_rows(self):
        rng = random.Random(710)
        for _ in range(200):
            row = random_row(rng, rng.randint(0, 6), rng.randint(0, 8))
            if tight(row):
                self.assertEqual(row.top + row.bottom + crossings(row.pairing), len(board_of(row).turns))


class RowOf(unittest.TestCase):

    def checked(self, top, bottom, pairing):
        row = row_of(top, bottom, pairing)
        self.assertIs(Row, row.__class__)
        self.assertEqual((top, bottom), (row.top, row.bottom))
        self.assertEqual(pairing, row.pairing)
        self.assertEqual(crossings(pairing), row.crossings())
        self.assertIs(True, tight(row))
        self.assertLessEqual(max(row.lanes), max(24, top, bottom))
        self.assertLessEqual(len(row), 300)
        return row

    def test_all_small_pairings(self):
        for top, bottom in itertools.product(range(6), repeat=2):
            if top + bottom <= 8:
                for pairing in all_pairings(top, bottom):
                    row = self.checked(top, bottom, pairing)
                    if top + bottom <= 6:
                        self.assertEqual(cords(board_of(row)), pairing)

    def test_all_small_pairings_at_the_top_or_at_the_bottom_alone(self):
        for pins in (2, 4, 6, 8):
            for pairing in all_pairings(pins, 0):
                self.checked(pins, 0, pairing)
                self.checked(0, pins, pairing)
                self.checked(1, pins - 1, pairing)

    def test_random_pairings(self):
        rng = random.Random(711)
        for _ in range(60):
            top = rng.randint(0, 24)
            bottom = top % 2 + 2 * rng.randint(0, (min(24, 40 - top) - top % 2) // 2)
            self.checked(top, bottom, random_pairing(rng, top + bottom))

    def test_as_many_crossings_as_possible(self):
        for top, bottom in ((0, 0), (1, 1), (20, 20), (24, 16), (16, 24), (24, 0), (0, 24), (24, 24), (23, 1)):
            row = self.checked(top, bottom, all_crossing(top + bottom))
            many = (top + bottom) // 2
            self.assertEqual(many * (many - 1) // 2, row.crossings())

    def test_many_lanes_at_the_top_and_at_the_bottom(self):
        # Caps and cups alone: in the middle of the row no lane is left.
        nest = Lot(24, [(pin, 23 - pin, 1) for pin in range(12)])
        row = self.checked(24, 24, nest.beside(nest))
        self.assertEqual(24, max(row.lanes))
        self.assertEqual(0, row.crossings())
        rng = random.Random(712)
        for _ in range(10):
            self.checked(24, 24, random_pairing(rng, 24).beside(random_pairing(rng, 24)))
            self.checked(24, 16, random_pairing(rng, 24).beside(random_pairing(rng, 16)))

    def test_bad_lanes(self):
        for number in NO_NUMBERS + (-1,):
            raised(self, BadLanes, {"number": number}, row_of, number, -5, Lot(1))
            raised(self, BadLanes, {"number": number}, row_of, 1, number, Lot(1))

    def test_bad_pairings(self):
        for lot in NO_PAIRINGS + (Lot(2, [(0, 1, 1)]), Lot(0)):
            for top, bottom in ((2, 1), (3, 1), (0, 3), (1, 0)):
                if lot.pins != top + bottom or lot in NO_PAIRINGS:
                    error = raised(self, BadPairing, {"lot": lot}, row_of, top, bottom, lot)
                    self.assertIs(lot, error.lot)
        for lot in NO_PAIRINGS:
            raised(self, BadPairing, {"lot": lot}, row_of, lot.pins, 0, lot)
        raised(self, BadPairing, {"lot": Lot(3)}, row_of, 2, 1, Lot(3))


class Rest(unittest.TestCase):

    def checked(self, row):
        """Checks against the powers themselves."""
        number, pairing = rest(row)
        self.assertEqual((row ** number).pairing, pairing)
        self.assertGreaterEqual(number, 1)
        for many in range(1, number):
            self.assertIs(False, alike_rows(row ** many, row ** (many + 1)))
        for many in range(number, number + 4):
            self.assertIs(True, alike_rows(row ** many, row ** (many + 1)))
        return number

    def test_without_letters(self):
        for lanes in (0, 1, 7):
            self.assertEqual((1, Row(lanes).pairing), rest(Row(lanes)))

    def test_without_lanes(self):
        self.assertEqual((1, Lot(0)), rest(Row(0, [("cup", 0), ("cap", 0)])))

    def test_the_smallest_number_is_at_least_1(self):
        self.assertEqual((1, Row(2, [("cross", 0)]).pairing), rest(Row(2, [("cross", 0)])))
        self.assertEqual((1, Row(2, [("cap", 0), ("cup", 0)]).pairing), rest(Row(2, [("cap", 0), ("cup", 0)])))

    def test_crossings(self):
        # The strands cross more and more, until each two of them cross.
        for lanes in range(2, 9):
            row = Row(lanes, [("cross", at) for at in range(lanes - 1)])
            number, pairing = rest(row)
            self.assertEqual(lanes - 1, number)
            self.assertEqual(all_crossing(2 * lanes), pairing)
            self.checked(row)

    def test_caps_that_move_on(self):
        for lanes in range(2, 9):
            self.assertEqual(lanes // 2, self.checked(Row(lanes, [("cap", lanes - 2), ("cup", 0)])))

    def test_random_rows(self):
        rng = random.Random(720)
        for _ in range(200):
            self.checked(square_row(rng, rng.randint(0, 6), rng.randint(0, 12)))

    def test_great_rows(self):
        rng = random.Random(721)
        row = Row(20, [("cross", at) for at in range(19)])
        self.assertEqual((19, all_crossing(40)), rest(row))
        row = square_row(rng, 20, 290, 24)
        number, pairing = rest(row)
        self.assertEqual(pairing, joined(pairing, row.pairing, 20))

    def test_unlike_lanes(self):
        for row in (Row(3, [("cap", 0)]), Row(0, [("cup", 0)])):
            raised(self, UnlikeLanes, {"one": row.bottom, "other": row.top}, rest, row)


class AllPairings(unittest.TestCase):

    def test_few_pins(self):
        self.assertEqual([Lot(0)], list(all_pairings(0, 0)))
        for top, bottom in ((2, 0), (1, 1), (0, 2)):
            self.assertEqual([Lot(2, [(0, 1, 1)])], list(all_pairings(top, bottom)))
        self.assertEqual([((0, 1, 1), (2, 3, 1)), ((0, 2, 1), (1, 3, 1)), ((0, 3, 1), (1, 2, 1))],
                         [lot.cords for lot in all_pairings(3, 1)])

    def test_odd_numbers_of_pins(self):
        for top, bottom in ((1, 0), (0, 1), (2, 1), (4, 3), (0, 7)):
            self.assertEqual([], list(all_pairings(top, bottom)))

    def test_by_the_definition(self):
        for pins in (0, 2, 4, 6, 8):
            pairs = [(a, b, 1) for a, b in itertools.combinations(range(pins), 2)]
            due = [found for found in itertools.combinations(pairs, pins // 2)
                   if len({pin for a, b, _ in found for pin in (a, b)}) == pins]
            for top in (0, 1, pins // 2):
                if top <= pins:
                    lots = list(all_pairings(top, pins - top))
                    self.assertEqual(sorted(due), [lot.cords for lot in lots])
                    self.assertEqual({pins}, {lot.pins for lot in lots})

    def test_each_one_is_the_pairing_of_a_row(self):
        for lot in all_pairings(3, 3):
            self.assertEqual(lot, row_of(3, 3, lot).pairing)

    def test_generator(self):
        self.assertTrue(inspect.isgenerator(all_pairings(1, 1)))
