"""Promises [64], [66] and [67], and the method `crossings` of [71]."""

import itertools
import random
import unittest

from rimcords.cords import cords
from rimcords.errors import BadLanes, BadLetter, BadNumber, UnlikeLanes
from rimcords.lots import Lot
from rimcords.moves import crossings
from rimcords.rows import Row
from tests.helpers import NO_NUMBERS, only_tuples, raised
from tests.rowhelpers import plain_board, random_row, square_row

LETTERS = (("cup", 1), ("cross", 0), ("cross", 2), ("cap", 1))


def pairs(row):
    return [(a, b) for a, b, _ in row.pairing.cords]


class Making(unittest.TestCase):

    def test_fields(self):
        row = Row(2, LETTERS)
        self.assertEqual(2, row.top)
        self.assertEqual(LETTERS, row.letters)
        self.assertEqual((2, 4, 4, 4, 2), row.lanes)
        self.assertEqual(2, row.bottom)
        self.assertEqual(4, len(row))
        self.assertEqual(2, row.crossings())

    def test_lists(self):
        letter = ["cross", 0]
        letters = [letter, ("cap", 0)]
        row = Row(2, letters)
        letter[1] = 7
        letters.append(letter)
        self.assertEqual((("cross", 0), ("cap", 0)), row.letters)
        self.assertTrue(only_tuples(row.letters))
        self.assertTrue(only_tuples(row.lanes))
        self.assertEqual((2, 2, 0), row.lanes)

    def test_without_letters(self):
        for lanes in (0, 1, 24):
            for row in (Row(lanes), Row(lanes, ()), Row(lanes, []), Row(top=lanes, letters=())):
                self.assertEqual((), row.letters)
                self.assertEqual((lanes,), row.lanes)
                self.assertEqual(lanes, row.bottom)
                self.assertEqual(0, len(row))
                self.assertEqual(0, row.crossings())

    def test_equal(self):
        self.assertIs(True, Row(2, LETTERS) == Row(2, [list(letter) for letter in LETTERS]))
        self.assertIs(False, Row(2, LETTERS) == Row(3, LETTERS))
        self.assertIs(False, Row(2, LETTERS) == Row(2, LETTERS[:3]))
        self.assertIs(False, Row(2, [("cross", 0)]) == Row(2, [("cross", 0)] * 2))
        self.assertIs(True, Row(2) != Row(3))
        for other in (None, 2, (), LETTERS, Lot(2)):
            self.assertIs(False, Row(2) == other)

    def test_bad_lanes(self):
        for top in NO_NUMBERS + (-1,):
            raised(self, BadLanes, {"number": top}, Row, top)
            raised(self, BadLanes, {"number": top}, Row, top, [None])

    def test_letters_at_the_edges(self):
        for lanes in range(4):
            for word, many, change in (("cross", lanes - 1, 0), ("cap", lanes - 1, -2), ("cup", lanes + 1, 2)):
                for at in range(-2, lanes + 3):
                    if 0 <= at < many:
                        self.assertEqual((lanes, lanes + change), Row(lanes, [(word, at)]).lanes)
                    else:
                        raised(self, BadLetter, {"place": 0, "letter": (word, at)}, Row, lanes, [(word, at)])

    def test_bad_letters(self):
        wrong = [None, 5, "cross", "cup", {}, (), [], ("cross",), ("cross", 0, 0), ("cup",), ("Cross", 0),
                 ("crosses", 0), (0, 0), (None, 0), (["cross"], 0), ({}, 0), ("", 0), (0, "cross"), {"cross": 0}, ("pin", 0)]
        for number in NO_NUMBERS:
            wrong += [("cross", number), ["cup", number], ("cap", number)]
        for letter in wrong:
            with self.subTest(letter=letter):
                error = raised(self, BadLetter, {"place": 1, "letter": letter}, Row, 4, [("cross", 2), letter, None])
                self.assertIs(letter, error.letter)

    def test_lanes_at_the_place_of_the_letter(self):
        raised(self, BadLetter, {"place": 1, "letter": ("cross", 0)}, Row, 2, [("cap", 0), ("cross", 0), ("cap", 0)])
        raised(self, BadLetter, {"place": 2, "letter": ["cap", 3]}, Row, 2, [("cup", 2), ("cap", 2), ["cap", 3]])
        self.assertEqual((2, 4, 2, 0), Row(2, [("cup", 2), ("cap", 2), ("cap", 0)]).lanes)


class Pairing(unittest.TestCase):

    def test_example_of_the_document(self):
        self.assertEqual(((0, 2, 1), (1, 3, 1)), Row(2, [("cross", 0), ("cross", 0)]).pairing.cords)

    def test_without_letters(self):
        self.assertEqual(Lot(0), Row(0).pairing)
        self.assertEqual([(0, 1)], pairs(Row(1)))
        self.assertEqual([(0, 5), (1, 4), (2, 3)], pairs(Row(3)))

    def test_crosses(self):
        self.assertEqual([(0, 5), (1, 3), (2, 4)], pairs(Row(3, [("cross", 1)])))
        self.assertEqual([(0, 3), (1, 4), (2, 5)], pairs(Row(3, [("cross", 0), ("cross", 1), ("cross", 0)])))
        self.assertEqual([(0, 3), (1, 5), (2, 4)], pairs(Row(3, [("cross", 0), ("cross", 1)])))

    def test_two_strands_that_cross_twice_count_as_crossing_once(self):
        for many in (1, 2, 3, 10):
            self.assertEqual([(0, 2), (1, 3)], pairs(Row(2, [("cross", 0)] * many)))
        # The other way round too, when they have met a third strand in between.
        self.assertEqual([(0, 3), (1, 4), (2, 5)], pairs(Row(3, [("cross", 0), ("cross", 1)] * 2)))

    def test_cups_and_caps(self):
        self.assertEqual([(0, 1)], pairs(Row(2, [("cap", 0)])))
        self.assertEqual([(0, 1)], pairs(Row(0, [("cup", 0)])))
        self.assertEqual([(0, 1), (2, 3)], pairs(Row(2, [("cap", 0), ("cup", 0)])))
        self.assertEqual([(0, 3), (1, 2)], pairs(Row(0, [("cup", 0), ("cup", 1)])))
        self.assertEqual([(0, 3), (1, 2)], pairs(Row(4, [("cap", 1), ("cap", 0)])))

    def test_cups_at_the_first_and_the_last_place(self):
        # Three lanes at the bottom, from right to left the pins 1, 2 and 3 (behind pin 0 at the top).
        self.assertEqual([(0, 1), (2, 3)], pairs(Row(1, [("cup", 0)])))
        self.assertEqual([(0, 3), (1, 2)], pairs(Row(1, [("cup", 1)])))
        self.assertEqual([(0, 7), (1, 4), (2, 3), (5, 6)], pairs(Row(2, [("cup", 2), ("cup", 1)])))

    def test_straightened(self):
        self.assertEqual(Row(1).pairing, Row(1, [("cup", 1), ("cap", 0)]).pairing)
        self.assertEqual(Row(1).pairing, Row(1, [("cup", 0), ("cap", 1)]).pairing)

    def test_closed_strands_leave_nothing(self):
        self.assertEqual(Lot(0), Row(0, [("cup", 0), ("cap", 0)]).pairing)
        self.assertEqual(Row(2).pairing, Row(2, [("cup", 1), ("cap", 1)]).pairing)
        self.assertEqual(Lot(0), Row(0, [("cup", 0), ("cup", 1), ("cross", 1), ("cap", 1), ("cap", 0)]).pairing)
        # A closed strand that another one crosses: it is gone behind the last cap.
        row = Row(1, [("cup", 1), ("cross", 0), ("cross", 0), ("cap", 1)])
        self.assertEqual(Row(1).pairing, row.pairing)

    def test_caps_that_do_not_just_join_two_cords(self):
        # The cord from 0 to 3 crosses both strands that the cap joins, and would cross the joined one twice.
        row = Row(3, [("cross", 0), ("cross", 1), ("cap", 0)])
        self.assertEqual([(0, 2), (1, 3)], pairs(row))
        self.assertEqual(cords(plain_board(row)), row.pairing)

    def test_one_end_at_each_pin(self):
        rng = random.Random(660)
        for _ in range(300):
            row = random_row(rng, rng.randint(0, 8), rng.randint(0, 30))
            lot = row.pairing
            self.assertIs(Lot, lot.__class__)
            self.assertEqual(row.top + row.bottom, lot.pins)
            self.assertEqual([1] * lot.pins, [lot.ends(pin) for pin in range(lot.pins)])
            self.assertLessEqual(crossings(lot), row.crossings())

    def test_all_short_rows(self):
        for top, length in ((0, 4), (1, 4), (2, 4), (3, 3), (4, 2)):
            fresh = [Row(top)]
            for _ in range(length):
                longer = []
                for row in fresh:
                    lanes = row.bottom
                    letters = [("cross", at) for at in range(lanes - 1)] + [("cap", at) for at in range(lanes - 1)]
                    for letter in letters + [("cup", at) for at in range(lanes + 1) if lanes < 6]:
                        longer.append(Row(top, row.letters + (letter,)))
                fresh = longer
                for row in fresh[:2000]:
                    self.assertEqual(cords(plain_board(row)), row.pairing)

    def test_the_lot_of_the_board(self):
        rng = random.Random(661)
        for _ in range(500):
            row = random_row(rng, rng.randint(0, 8), rng.randint(0, 30))
            self.assertEqual(cords(plain_board(row)), row.pairing)

    def test_caps_by_merging_and_dropping(self):
        rng = random.Random(662)
        for _ in range(300):
            row = random_row(rng, rng.randint(0, 8), rng.randint(0, 25), 10)
            if row.bottom >= 2:
                at = rng.randint(0, row.bottom - 2)
                pin = row.top + row.bottom - 2 - at
                due = row.pairing.merged(pin).dropped(pin)
                self.assertEqual(due, Row(row.top, row.letters + (("cap", at),)).pairing)

    def test_great_rows(self):
        rng = random.Random(663)
        for words in (("cross",), ("cross", "cup", "cap"), ("cup", "cap")):
            row = random_row(rng, 24, 300, 24, words)
            self.assertEqual(row.top + row.bottom, row.pairing.pins)
        row = random_row(rng, 10, 80, 12)
        self.assertEqual(cords(plain_board(row)), row.pairing)

    def test_asking_changes_nothing(self):
        row = Row(2, LETTERS)
        self.assertEqual(row.pairing, row.pairing)
        self.assertEqual(LETTERS, row.letters)
        self.assertEqual((2, 4, 4, 4, 2), row.lanes)


class Composing(unittest.TestCase):

    def test_one_behind_the_other(self):
        one = Row(2, LETTERS[:2])
        two = Row(4, LETTERS[2:])
        self.assertEqual(Row(2, LETTERS), one >> two)
        self.assertEqual(one, one >> Row(4))
        self.assertEqual(one, Row(2) >> one)
        self.assertEqual(Row(0), Row(0) >> Row(0))
        self.assertEqual(LETTERS[:2], one.letters)

    def test_unlike_lanes(self):
        with self.assertRaises(UnlikeLanes) as caught:
            Row(2, LETTERS[:2]) >> Row(2)
        self.assertEqual((4, 2), (caught.exception.one, caught.exception.other))
        with self.assertRaises(UnlikeLanes) as caught:
            Row(0) >> Row(1)
        self.assertEqual((0, 1), (caught.exception.one, caught.exception.other))

    def test_powers(self):
        row = Row(2, LETTERS)
        self.assertEqual(Row(2), row ** 0)
        self.assertEqual(row, row ** 1)
        self.assertEqual(row >> row >> row, row ** 3)
        self.assertEqual(Row(0), Row(0) ** 5)
        self.assertEqual(4 * 75, len(row ** 75))
        for number in (0, 1, 2, -1, None):
            with self.assertRaises(UnlikeLanes) as caught:
                Row(3, [("cap", 0)]) ** number
            self.assertEqual((1, 3), (caught.exception.one, caught.exception.other))

    def test_powers_below_none(self):
        for number in NO_NUMBERS + (-1,):
            with self.assertRaises(BadNumber):
                Row(2, LETTERS) ** number

    def test_powers_leave_the_pairing_of_all_rows_behind_one_another(self):
        rng = random.Random(670)
        for _ in range(60):
            row = square_row(rng, rng.randint(0, 5), rng.randint(0, 10))
            self.assertEqual(row.top, row.bottom)
            for number in range(4):
                self.assertEqual(cords(plain_board(row ** number)), (row ** number).pairing)

    def test_shifted(self):
        row = Row(2, LETTERS)
        self.assertEqual(Row(6, [("cup", 4), ("cross", 3), ("cross", 5), ("cap", 4)]), row.shifted(3, 1))
        self.assertEqual(row, row.shifted(0, 0))
        self.assertEqual(Row(7), Row(0).shifted(3, 4))
        self.assertEqual(Row(2, LETTERS), row)
        self.assertEqual(Row(3, [("cup", 2)]), Row(1, [("cup", 0)]).shifted(left=2, right=0))

    def test_shifted_lanes_go_straight_down(self):
        rng = random.Random(671)
        for _ in range(100):
            row = random_row(rng, rng.randint(0, 5), rng.randint(0, 20))
            left, right = rng.randint(0, 3), rng.randint(0, 3)
            wide = row.shifted(left, right).pairing
            inner = range(left, left + row.top)
            lower = range(left + row.top + 2 * right, wide.pins - left)
            for pin in range(left):
                self.assertEqual(1, wide.between(pin, wide.pins - 1 - pin))
            for lane in range(right):
                self.assertEqual(1, wide.between(inner.stop + lane, lower.start - 1 - lane))
            kept = [*inner, *lower]
            cut = [(kept.index(a), kept.index(b), n) for a, b, n in wide.cords if a in kept]
            self.assertEqual(row.pairing, Lot(len(kept), cut))

    def test_bad_numbers(self):
        for number in NO_NUMBERS + (-1,):
            raised(self, BadNumber, {"number": number}, Row(2).shifted, number, -5)
            raised(self, BadNumber, {"number": number}, Row(2).shifted, 0, number)
            raised(self, BadNumber, {"number": number}, Row(2).shifted, right=number, left=1)

    def test_flipped(self):
        self.assertEqual(Row(2, [("cup", 1), ("cross", 2), ("cross", 0), ("cap", 1)]), Row(2, LETTERS).flipped())
        self.assertEqual(Row(0, [("cup", 0)]), Row(2, [("cap", 0)]).flipped())
        self.assertEqual(Row(3, [("cap", 1)]), Row(1, [("cup", 1)]).flipped())
        self.assertEqual(Row(5), Row(5).flipped())

    def test_flipped_boards(self):
        rng = random.Random(672)
        for _ in range(200):
            row = random_row(rng, rng.randint(0, 6), rng.randint(0, 25))
            self.assertEqual(plain_board(row).mirrored(), plain_board(row.flipped()))
            self.assertEqual(row.pairing.mirrored(), row.flipped().pairing)
            self.assertEqual(row, row.flipped().flipped())
            self.assertEqual(row.lanes[::-1], row.flipped().lanes)

    def test_pieces(self):
        rng = random.Random(673)
        for _ in range(60):
            row = random_row(rng, rng.randint(0, 6), 20)
            at = rng.randint(0, len(row))
            one = Row(row.top, row.letters[:at])
            two = Row(one.bottom, row.letters[at:])
            self.assertEqual(row, one >> two)
            self.assertEqual(two.flipped() >> one.flipped(), row.flipped())
            self.assertEqual(row.crossings(), one.crossings() + two.crossings())


class Crossings(unittest.TestCase):

    def test_letters(self):
        self.assertEqual(0, Row(4, [("cap", 1), ("cup", 0)]).crossings())
        self.assertEqual(7, Row(4, [("cross", 1)] * 7).crossings())
        self.assertEqual(2, Row(2, LETTERS).crossings())

    def test_by_the_definition(self):
        for letters in itertools.product([("cross", 0), ("cup", 1), ("cap", 0)], repeat=4):
            self.assertEqual(letters.count(("cross", 0)), Row(8, letters).crossings())
