"""Promises [45] to [47]."""

import random
import unittest

from rimcords.boards import Board
from rimcords.courses import Course
from rimcords.errors import BadDeed, BadGap, BadNumber, BadPin, NoPair, OddPin, Refused
from rimcords.fences import cords_by_fences
from rimcords.lots import Lot
from tests.boardhelpers import EMPTY, STAR, fields_of, random_boards, random_course
from tests.helpers import NO_NUMBERS, only_tuples, raised

DEEDS = (("pin", 0), ("pin", 0), ("track", 0, 2), ("pin", 1), ("merge", 1), ("turn", -1), ("mirror",), ("drop", 0))


class Making(unittest.TestCase):

    def test_deeds(self):
        course = Course(DEEDS)
        self.assertEqual(DEEDS, course.deeds)
        self.assertEqual(8, len(course))
        self.assertEqual(list(DEEDS), list(course))
        self.assertEqual(DEEDS, Course([list(deed) for deed in DEEDS]).deeds)
        self.assertTrue(only_tuples(Course([list(deed) for deed in DEEDS]).deeds))

    def test_lists_are_not_kept(self):
        deed = ["pin", 0]
        deeds = [deed]
        course = Course(deeds)
        deed[1] = 5
        deeds.append(deed)
        self.assertEqual((("pin", 0),), course.deeds)

    def test_without_deeds(self):
        for course in (Course(), Course(()), Course([])):
            self.assertEqual((), course.deeds)
            self.assertEqual(0, len(course))
            self.assertEqual([], list(course))

    def test_any_whole_numbers(self):
        deeds = (("pin", -7), ("track", 10 ** 9, -1), ("turn", -10 ** 18), ("drop", 99), ("merge", -1))
        self.assertEqual(deeds, Course(deeds).deeds)

    def test_bad_deeds(self):
        wrong = [None, 5, "pin", "mirror", {}, (), [], ("pin",), ("pin", 0, 0), ("track", 0), ("track", 0, 1, 1),
                 ("merge",), ("drop", 1, 2), ("turn",), ("mirror", 0), ("open", 0), ("Pin", 0), (0, 0), (None,),
                 (["pin"], 0), ({}, 1), (("pin",), 0), ("beside", 0)]
        for number in NO_NUMBERS:
            wrong += [("pin", number), ["track", 0, number], ("track", number, 1), ("merge", number),
                      ("drop", number), ("turn", number)]
        for deed in wrong:
            with self.subTest(deed=deed):
                error = raised(self, BadDeed, {"place": 1, "deed": deed}, Course, [("pin", 0), deed, None])
                self.assertIs(deed, error.deed)

    def test_bad_deed_in_front(self):
        raised(self, BadDeed, {"place": 0, "deed": ("pin",)}, Course, [("pin",), ("drop",)])

    def test_plus(self):
        one = Course(DEEDS[:3])
        other = Course(DEEDS[3:])
        self.assertEqual(DEEDS, (one + other).deeds)
        self.assertEqual(DEEDS[:3], one.deeds)
        self.assertEqual(one, one + Course())
        self.assertEqual(one, Course() + one)

    def test_equal(self):
        self.assertIs(True, Course(DEEDS) == Course([list(deed) for deed in DEEDS]))
        self.assertIs(False, Course(DEEDS) == Course(DEEDS[:-1]))
        self.assertIs(False, Course([("pin", 0)]) == Course([("pin", 1)]))
        self.assertIs(True, Course() == Course())
        self.assertIs(True, Course() != Course(DEEDS))
        for other in (None, (), DEEDS, 0):
            self.assertIs(False, Course() == other)
            self.assertIs(False, Course(DEEDS) == other)


class Doing(unittest.TestCase):

    def test_without_deeds(self):
        lot = Lot(3, [(0, 1, 2)])
        self.assertEqual(lot, Course()(lot))
        self.assertEqual([lot], list(Course().stages(lot)))
        self.assertEqual(fields_of(STAR), fields_of(Course()(STAR)))

    def test_each_deed(self):
        lot = Lot(4, [(0, 1, 2), (1, 3, 2), (0, 3, 1)])
        for start in (lot, Board(4, ((0,), (2, 3), (), (1,)), (2, 4)), STAR.widened(0, 1)):
            self.assertEqual(start.opened(2), Course([("pin", 2)])(start))
            self.assertEqual(start.linked(3, 5), Course([("track", 3, 5)])(start))
            self.assertEqual(start.merged(1), Course([("merge", 1)])(start))
            self.assertEqual(start.turned(-3), Course([("turn", -3)])(start))
            self.assertEqual(start.turned(10 ** 18), Course([("turn", 10 ** 18)])(start))
            self.assertEqual(start.mirrored(), Course([("mirror",)])(start))
            self.assertIs(start.__class__, Course([("pin", 2)])(start).__class__)
        self.assertEqual(lot.dropped(1), Course([("drop", 1)])(lot))
        board = Board(4, ((0,), (2, 3), (), (1,)), (2, 4))
        self.assertEqual(fields_of(board.dropped(3)), fields_of(Course([["drop", 3]])(board)))

    def test_one_after_the_other(self):
        self.assertEqual(Lot(0), Course(DEEDS[:5] + (("drop", 0), ("drop", 0)))(Lot(0)))
        self.assertEqual(Lot(2, [(0, 1, 2)]), Course(DEEDS[:3])(Lot(0)))
        self.assertEqual((2, ((0,), (1,)), (2,)), fields_of(Course(DEEDS[:3])(EMPTY)))

    def test_stages(self):
        course = Course(DEEDS)
        for start in (Lot(0), EMPTY):
            stages = list(course.stages(start))
            self.assertEqual(9, len(stages))
            self.assertEqual(start, stages[0])
            for place, deed in enumerate(DEEDS):
                self.assertEqual(stages[place + 1], Course([deed])(stages[place]))
                self.assertEqual(stages[place + 1], Course(DEEDS[:place + 1])(start))

    def test_stages_is_a_generator(self):
        found = Course([("drop", 0)]).stages(EMPTY)
        self.assertIs(found, iter(found))
        self.assertEqual(EMPTY, next(found))
        raised(self, Refused, {"place": 0, "deed": ("drop", 0)}, next, found)

    def test_lots_and_boards_go_along(self):
        rng = random.Random(46)
        for _ in range(60):
            course = random_course(rng, 25, 6)
            for lot, board in zip(course.stages(Lot(0)), course.stages(EMPTY)):
                self.assertEqual(lot, cords_by_fences(board))

    def test_sums_of_courses(self):
        rng = random.Random(47)
        for _ in range(20):
            course = random_course(rng, 20, 5)
            one, other = Course(course.deeds[:9]), Course(course.deeds[9:])
            self.assertEqual(course(EMPTY), other(one(EMPTY)))
            self.assertEqual(course(EMPTY), (one + other)(EMPTY))


class Refusing(unittest.TestCase):

    def refused(self, cause, fields, deed, *starts):
        for start in starts:
            course = Course([("turn", 1), list(deed), ("pin", 99)])
            for call in (course, lambda start: list(course.stages(start))):
                error = raised(self, Refused, {"place": 1, "deed": deed}, call, start)
                self.assertIs(course.deeds[1], error.deed)
                self.assertIs(cause, error.__cause__.__class__)
                for name, value in fields.items():
                    self.assertEqual(value, getattr(error.__cause__, name))

    def test_errors_of_the_deeds(self):
        self.refused(BadGap, {"gap": 4}, ("pin", 4), Lot(4), STAR)
        self.refused(BadGap, {"gap": -1}, ("track", -1, 0), Lot(4), STAR)
        self.refused(BadGap, {"gap": 9}, ("merge", 9), Lot(4), STAR)
        self.refused(NoPair, {"pins": 1}, ("track", 0, 0), Lot(1), Board(1, ((),), ()))
        self.refused(NoPair, {"pins": 0}, ("merge", 0), Lot(0), EMPTY)
        self.refused(BadNumber, {"number": 0}, ("track", 0, 0), Lot(4), STAR)
        self.refused(BadPin, {"pin": 4}, ("drop", 4), Lot(4), STAR)
        self.refused(OddPin, {"pin": 2}, ("drop", 2), Lot(4, [(1, 3, 1), (0, 2, 1)]), STAR)

    def test_stages_ahead_of_it(self):
        for start in (Lot(0), EMPTY):
            course = Course([("pin", 0), ("pin", 0), ("drop", 5), ("pin", 0)])
            stages = course.stages(start)
            self.assertEqual([0, 1, 2], [next(stages).pins, next(stages).pins, next(stages).pins])
            raised(self, Refused, {"place": 2, "deed": ("drop", 5)}, next, stages)

    def test_the_same_deeds_are_refused_on_boards_and_their_lots(self):
        rng = random.Random(48)
        for board in random_boards(48, 40):
            lot = cords_by_fences(board)
            for _ in range(20):
                pin = rng.randint(-1, 6)
                deed = rng.choice([("pin", pin), ("track", pin, rng.randint(0, 2)), ("merge", pin), ("drop", pin)])
                course = Course([deed])
                try:
                    due = course(lot)
                except Refused as refused:
                    cause = refused.__cause__
                    error = raised(self, Refused, {"place": 0, "deed": deed}, course, board)
                    self.assertIs(cause.__class__, error.__cause__.__class__)
                    self.assertEqual(vars(cause), vars(error.__cause__))
                else:
                    self.assertEqual(due, cords_by_fences(course(board)))
