"""Promises [80] and [81]."""

import itertools
import random
import unittest

from rimcords.boards import Board
from rimcords.building import course_of
from rimcords.cords import cords
from rimcords.courses import Course
from rimcords.errors import BadPins, Refused, TooMany
from rimcords.holes import least_fillers
from rimcords.lots import Lot
from rimcords.moves import moved, moves
from rimcords.surroundings import Surroundings, hole_alone
from tests.boardhelpers import random_boards
from tests.helpers import BIG, NO_NUMBERS, plain_table, raised

NOTHING = Course()


def fillers(pins, most):
    """All lots with at most so many cords between each two pins."""
    pairs = list(itertools.combinations(range(pins), 2))
    return [Lot(pins, [(a, b, n) for (a, b), n in zip(pairs, numbers) if n])
            for numbers in itertools.product(range(most + 1), repeat=len(pairs))]


def is_good(filler, course, wishes):
    """Whether a filler is good, by the definition."""
    try:
        lot = course(filler)
    except Refused:
        return False
    return lot.pins == wishes.pins and wishes in lot


def is_refused(course, start):
    try:
        course(start)
    except Refused:
        return True
    return False


def greatest(lot):
    return max(map(max, plain_table(lot)))


def random_case(rng, pins, length, least=0, most=7):
    """A course that can be done on some filler, and wishes which are not too great, most of which fit it.

    The deeds leave at least so many pins, if there are once so many, and never more than the most.
    """
    lot = Lot(pins, [(a, b, rng.randint(1, 2)) for a, b in itertools.combinations(range(pins), 2) if rng.random() < 0.7])
    deeds = []
    while len(deeds) < length:
        gap = rng.randrange(max(lot.pins, 1))
        deed = rng.choice([("pin", gap), ("track", gap, rng.randint(1, 2)), ("merge", gap), ("drop", gap),
                           ("track", gap, 1), ("drop", gap), ("turn", rng.randint(-9, 9)), ("mirror",)])
        if deed[0] == "pin" and lot.pins >= most or deed[0] in ("merge", "drop") and lot.pins <= least:
            continue
        try:
            lot = Course([deed])(lot)
        except Refused:
            continue
        deeds.append(deed)
    while greatest(lot) > 2 or rng.random() < 0.5:
        ways = list(moves(lot))
        if not ways:
            break
        lot = moved(lot, rng.choice(ways))
    if rng.random() < 0.3 and lot.pins >= 2:
        lot = lot + Lot(lot.pins, [(*rng.sample(range(lot.pins), 2), rng.choice((1, 2, 2)))])
    return Course(deeds), lot if greatest(lot) <= 2 else Lot(lot.pins)


class LeastFillers(unittest.TestCase):

    def checked(self, pins, course, wishes, more=0):
        """Checks against the definition, with so many more cords than [81] tells between two pins of the fillers."""
        found = least_fillers(pins, course, wishes)
        good = [lot for lot in fillers(pins, max(greatest(wishes), 1) + more) if is_good(lot, course, wishes)]
        due = [lot for lot in good if not any(other in lot for other in good if other != lot)]
        self.assertIs(tuple, found.__class__)
        self.assertEqual(sorted(lot.cords for lot in due), [lot.cords for lot in found])
        self.assertTrue(all(lot.pins == pins and isinstance(lot, Lot) for lot in found))
        return found

    def test_without_deeds(self):
        # Nothing lies round the part, so it must carry the wishes itself.
        for lot in fillers(3, 1) + [Lot(0), Lot(1), Lot(2), Lot(2, [(0, 1, 2)]), Lot(4, [(0, 2, 1), (1, 3, 1)])]:
            self.assertEqual((lot,), least_fillers(lot.pins, NOTHING, lot))

    def test_without_wishes(self):
        for pins in range(5):
            self.assertEqual((Lot(pins),), least_fillers(pins, NOTHING, Lot(pins)))
        # All ends are taken off the rim: whatever is even at all pins is good, and nothing is the least of it.
        self.assertEqual((Lot(2),), least_fillers(2, Course([("drop", 0), ("drop", 0)]), Lot(0)))

    def test_fillers_without_pins(self):
        self.assertEqual((Lot(0),), least_fillers(0, NOTHING, Lot(0)))
        course = Course([("pin", 0), ("pin", 0), ("track", 0, 1)])
        self.assertEqual((Lot(0),), least_fillers(0, course, Lot(2, [(0, 1, 1)])))
        self.assertEqual((), least_fillers(0, course, Lot(2, [(0, 1, 2)])))
        self.assertEqual((), least_fillers(0, course, Lot(2)))

    def test_a_filler_with_one_pin(self):
        course = Course([("pin", 0), ("track", 0, 1), ("track", 1, 1)])
        self.assertEqual((Lot(1),), least_fillers(1, course, Lot(2, [(0, 1, 2)])))
        self.assertEqual((Lot(1),), least_fillers(1, Course([("drop", 0)]), Lot(0)))
        self.assertEqual((), least_fillers(1, course, Lot(2, [(0, 1, 1)])))

    def test_wishes_that_lead_through_the_part(self):
        # The pins 1 and 3 of the part are only joined to the part itself.
        course = Course([("drop", 3), ("drop", 1)])
        self.assertEqual((Lot(4, [(0, 2, 1)]),), self.checked(4, course, Lot(2, [(0, 1, 1)])))

    def test_several_least_fillers(self):
        course = Course([("merge", 1)])
        wishes = Lot(3, [(0, 1, 1)])
        found = self.checked(4, course, wishes)
        self.assertEqual((Lot(4, [(0, 1, 1)]), Lot(4, [(0, 2, 1)])), found)

    def test_deeds_that_cannot_be_done(self):
        for deed in (("drop", 2), ("pin", 2), ("merge", -1), ("track", 0, 0), ("track", 5, 1), ("drop", -1)):
            self.assertEqual((), least_fillers(2, Course([deed]), Lot(2)))
            self.assertEqual((), least_fillers(2, Course([deed]), Lot(1)))
        for pins, deed in ((0, ("merge", 0)), (1, ("merge", 0)), (1, ("track", 0, 1)), (0, ("drop", 0))):
            for wishes in (Lot(0), Lot(1)):
                self.assertEqual((), least_fillers(pins, Course([deed]), wishes))

    def test_deeds_that_can_be_done_on_some_fillers(self):
        # A pin with an odd number of ends cannot be dropped.
        self.assertEqual((Lot(2),), self.checked(2, Course([("drop", 0)]), Lot(1)))
        course = Course([("track", 0, 1), ("drop", 0)])
        self.assertEqual((Lot(2, [(0, 1, 1)]),), self.checked(2, course, Lot(1)))
        course = Course([("track", 0, 1), ("drop", 1)])
        self.assertEqual((Lot(3, [(0, 1, 1)]), Lot(3, [(1, 2, 1)])), self.checked(3, course, Lot(2)) +
                         self.checked(3, course, Lot(2, [(0, 1, 1)])))

    def test_another_number_of_pins(self):
        for pins in (0, 1, 3, 9):
            self.assertEqual((), least_fillers(2, NOTHING, Lot(pins)))
        self.assertEqual((), least_fillers(2, Course([("pin", 0)]), Lot(2)))

    def test_ends_that_are_not_as_odd_as_the_wishes(self):
        # The new pin has one end, whatever the filler is.
        course = Course([("pin", 1), ("track", 1, 1)])
        self.assertEqual((), self.checked(2, course, Lot(3, [(0, 1, 1)])))
        self.assertEqual((Lot(2, [(0, 1, 1)]),), self.checked(2, course, Lot(3, [(0, 2, 1)])))

    def test_ways_past_the_part(self):
        # A ring of tracks round the part.
        ring = Course([("track", gap, 1) for gap in range(4)])
        self.assertEqual((Lot(4),), self.checked(4, ring, Lot(4, [(gap, (gap + 1) % 4, 1) for gap in range(4)])))
        self.assertEqual((Lot(4),), self.checked(4, ring, Lot(4, [(0, 2, 2)])))
        self.assertEqual((Lot(4, [(0, 1, 1), (2, 3, 1)]), Lot(4, [(0, 3, 1), (1, 2, 1)])),
                         self.checked(4, ring, Lot(4, [(0, 2, 1), (1, 3, 1)])))

    def test_ways_that_cross_the_part_twice(self):
        # Behind pin 2, which is joined to nothing but the part, leads a way from gap 1 to gap 2 of the part, though not
        # to the rim. So two cords from pin 0 to pin 2 carry nothing to pin 1.
        course = Course([("drop", 2), ("track", 1, 2)])
        wishes = Lot(3, [(0, 1, 2)])
        self.assertNotIn(wishes, course(Lot(4, [(0, 2, 2)])))
        self.assertNotIn(Lot(4, [(0, 2, 2)]), self.checked(4, course, wishes))

    def test_what_no_filler_can_help(self):
        # Two new pins are joined to nothing, or not to one another but over the part, or not to one another at all.
        wishes = Lot(4, [(2, 3, 2)])
        self.assertEqual((), self.checked(2, Course([("pin", 1), ("pin", 2)]), wishes))
        course = Course([("pin", 1), ("pin", 2), ("track", 1, 2), ("track", 3, 2)])
        self.assertEqual((Lot(2, [(0, 1, 2)]),), self.checked(2, course, wishes))
        course = Course([("pin", 1), ("pin", 2), ("pin", 3), ("track", 1, 2), ("track", 4, 2)])
        self.assertEqual((), self.checked(2, course, Lot(5, [(2, 3, 2)])))

    def test_rims_without_pins_on_the_way(self):
        for deeds in ((), (("turn", 3),), (("mirror",),)):
            course = Course([("drop", 0), *deeds, ("pin", 0), *deeds, ("pin", 0), ("track", 0, 1)])
            self.assertEqual((Lot(1),), self.checked(1, course, Lot(2, [(0, 1, 1)])))
            self.assertEqual((), self.checked(1, course, Lot(2, [(0, 1, 2)])))

    def test_by_the_definition(self):
        rng = random.Random(800)
        many = {}
        for _ in range(300):
            pins = rng.randint(0, 3)
            course, wishes = random_case(rng, pins, rng.randint(0, 14))
            found = self.checked(pins, course, wishes, more=1)
            many[len(found)] = many.get(len(found), 0) + 1
        self.assertGreater(many.get(0, 0), 5)
        self.assertGreater(many[1], 50)
        self.assertGreater(sum(many[number] for number in many if number > 1), 20)

    def test_four_pins_by_the_definition(self):
        rng = random.Random(801)
        for _ in range(80):
            course, wishes = random_case(rng, 4, rng.randint(0, 12))
            self.checked(4, course, wishes)

    def test_boards_in_the_place(self):
        # A board can be put into the place exactly if one of the least fillers fits its lot.
        rng = random.Random(802)
        boards = [board for board in random_boards(802, 300, pins=4, length=25) if board.pins == 3]
        answers = []
        for _ in range(40):
            course, wishes = random_case(rng, 3, rng.randint(0, 12))
            found = least_fillers(3, course, wishes)
            for board in rng.sample(boards, 10):
                lot = cords(board)
                answers.append(any(filler in lot for filler in found))
                self.assertIs(answers[-1], is_good(lot, course, wishes))
                if answers[-1]:
                    self.assertIn(wishes, cords(course(board)))
        self.assertIn(True, answers)
        self.assertIn(False, answers)

    def test_long_courses(self):
        rng = random.Random(808)
        answers = []
        for pins in (3, 4, 4, 4) * 4:
            course, wishes = random_case(rng, pins, 120, rng.randint(6, 12), 25)
            found = least_fillers(pins, course, wishes)
            answers.append(len(found))
            for filler in found[:6]:
                self.assertTrue(is_good(filler, course, wishes))
                for move in list(moves(filler))[:6]:
                    self.assertFalse(is_good(moved(filler, move), course, wishes))
            for other in rng.sample(fillers(pins, 2), 9):
                self.assertIs(is_good(other, course, wishes), any(filler in other for filler in found))
        self.assertGreater(len([many for many in answers if many > 1]), 3)

    def test_great_numbers(self):
        course = Course([("track", gap, BIG) for gap in range(4)] * 10)
        self.assertEqual((Lot(4),), least_fillers(4, course, Lot(4, [(0, 2, 2)])))
        board = Board(4, ((0,), (2,), (4,), (6,), (1, 3, 5, 7)), (1, 1, 1, 1))
        self.assertEqual((Lot(0),), least_fillers(0, course_of(board), Lot(4, [(0, 2, 1), (1, 3, 1)])))
        self.assertEqual((Lot(0),), least_fillers(0, course_of(board * BIG), Lot(4)))

    def test_errors_in_order(self):
        great = Lot(2, [(0, 1, 3)])
        for pins in NO_NUMBERS + (-1,):
            raised(self, BadPins, {"pins": pins}, least_fillers, pins, NOTHING, great)
        for pins in (5, 6, 40):
            raised(self, TooMany, {"number": pins}, least_fillers, pins, NOTHING, great)
        for pins in (0, 2, 4):
            raised(self, TooMany, {"number": 3}, least_fillers, pins, NOTHING, great)
        raised(self, TooMany, {"number": 4}, least_fillers, 4, Course([("drop", 9)]), Lot(4, [(0, 2, 2), (1, 3, 2)]))
        raised(self, TooMany, {"number": 4}, least_fillers, 0, NOTHING, Lot(3, [(0, 1, 2), (1, 2, 2)]))
        raised(self, TooMany, {"number": BIG}, least_fillers, 0, NOTHING, Lot(3, [(0, 1, BIG)]))

    def test_the_greatest_entry_of_the_table_counts(self):
        # Many wishes, of which no more than two pass between two gaps.
        wishes = Lot(8, [(pin, pin + 1, 1) for pin in range(0, 8, 2)])
        self.assertEqual((), least_fillers(4, NOTHING, wishes))
        self.assertEqual((Lot(4, [(0, 1, 1), (2, 3, 1)]),), least_fillers(4, NOTHING, Lot(4, [(0, 1, 1), (2, 3, 1)])))


class Costs(unittest.TestCase):
    """What a course makes of the surroundings is what it makes of the table of lots."""

    def test_surroundings_and_lots(self):
        rng = random.Random(810)
        far = 10 ** 6
        for _ in range(200):
            pins = rng.randint(0, 4)
            course, wishes = random_case(rng, pins, rng.randint(0, 20))
            around = course(hole_alone(pins, far))
            self.assertIs(Surroundings, around.__class__)
            self.assertEqual(wishes.pins, around.pins)
            # With the part as far to cross as what lies nowhere, the costs are those of the ways past it.
            full = Lot(pins, [(a, b, far) for a, b in itertools.combinations(range(pins), 2)])
            fit = [lot for lot in fillers(pins, 1) if not is_refused(course, lot)]
            table = course(full + fit[0]).table
            for row, others in zip(table, around.costs):
                self.assertEqual([min(cost, far) for cost in row], [min(cost, far) for cost in others[:len(row)]])
