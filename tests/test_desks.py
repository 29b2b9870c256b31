"""Promises [82] to [85]."""

import random
import unittest

from rimcords.boards import Board
from rimcords.desks import Desk, perform
from rimcords.errors import BadNumber, BadPin, BadTrack, BadWidth, Barred, NothingToUndo, NotPart, RimError, SamePin
from rimcords.laying import lay_halves
from rimcords.lots import Lot
from rimcords.shares import room
from rimcords.wires import are_wires
from tests.boardhelpers import EMPTY, SHAPES, STAR, fields_of, grid_board, random_boards, ring_board
from tests.helpers import BIG, NO_NUMBERS, as_lists, only_tuples, raised

TRACK = Board(2, ((0,), (1,)), (5,))
# An inner joint with three ends.
ODD = Board(3, ((0,), (2,), (4,), (1, 3, 5)), (2, 2, 3))


def state(desk):
    return (fields_of(desk.board), desk.wishes, desk.log)


class Desks(unittest.TestCase):

    def refused(self, error, fields, desk, call, *args, **named):
        """Checks that a deed raises an error and changes nothing."""
        before = state(desk)
        raised(self, error, fields, call, *args, **named)
        self.assertEqual(before, state(desk))


class Making(Desks):

    def test_fields(self):
        for board in (STAR, ODD, EMPTY, Board(3, ((), (), ()), ())):
            desk = Desk(board)
            self.assertEqual(fields_of(board), fields_of(desk.board))
            self.assertEqual(Lot(board.pins), desk.wishes)
            self.assertEqual((), desk.log)
            self.assertTrue({"board", "wishes", "log"} <= set(vars(desk)))

    def test_by_name(self):
        self.assertEqual((), Desk(board=STAR).log)


class Wish(Desks):

    def test_wishes_add_up(self):
        desk = Desk(TRACK)
        self.assertIs(None, desk.wish(1, 0))
        self.assertEqual(Lot(2, [(0, 1, 1)]), desk.wishes)
        self.assertEqual((("wish", 0, 1, 1),), desk.log)
        desk.wish(0, 1, 2)
        desk.wish(one=1, other=0, many=2)
        self.assertEqual(Lot(2, [(0, 1, 5)]), desk.wishes)
        self.assertEqual((("wish", 0, 1, 1), ("wish", 0, 1, 2), ("wish", 0, 1, 2)), desk.log)
        self.assertEqual(fields_of(TRACK), fields_of(desk.board))

    def test_barred(self):
        desk = Desk(STAR)
        desk.wish(0, 2)
        self.refused(Barred, {"first": 0, "last": 3, "held": 1, "wished": 2}, desk, desk.wish, 1, 0)
        self.refused(Barred, {"first": 0, "last": 1, "held": 1, "wished": 2}, desk, desk.wish, 3, 1, 2)
        desk.wish(3, 1)
        self.assertEqual(Lot(4, [(0, 2, 1), (1, 3, 1)]), desk.wishes)
        self.refused(Barred, {"first": 0, "last": 1, "held": 0, "wished": 1}, Desk(Board(3, ((), (), ()), ())),
                     Desk(Board(3, ((), (), ()), ())).wish, 1, 2)

    def test_barred_as_in_halves(self):
        rng = random.Random(820)
        done = 0
        for board in random_boards(820, 80, pins=6, length=50, even=False):
            desk = Desk(board)
            for _ in range(8 if board.pins >= 2 else 0):
                one, other = rng.sample(range(board.pins), 2)
                many = rng.randint(1, 2)
                wishes = desk.wishes + Lot(board.pins, [(one, other, many)])
                try:
                    lay_halves(board, wishes)
                except Barred as error:
                    self.refused(Barred, vars(error), desk, desk.wish, one, other, many)
                else:
                    desk.wish(one, other, many)
                    self.assertEqual(wishes, desk.wishes)
                    done += 1
        self.assertGreater(done, 50)

    def test_errors_in_order(self):
        desk = Desk(STAR)
        for call in (desk.wish, desk.unwish):
            for pin in NO_NUMBERS + (-1, 4):
                self.refused(BadPin, {"pin": pin}, desk, call, pin, -7, 0)
                self.refused(BadPin, {"pin": pin}, desk, call, 3, pin, 0)
            self.refused(SamePin, {"pin": 3}, desk, call, 3, 3, 0)
            for many in NO_NUMBERS + (0, -1):
                self.refused(BadNumber, {"number": many}, desk, call, 3, 2, many)
                self.refused(BadNumber, {"number": many}, desk, call, 0, 1, many=many)
        self.refused(BadPin, {"pin": 0}, Desk(EMPTY), Desk(EMPTY).wish, 0, 0)
        lone = Desk(Board(1, ((),), ()))
        self.refused(SamePin, {"pin": 0}, lone, lone.unwish, 0, 0)


class Unwish(Desks):

    def test_wishes_taken_back(self):
        desk = Desk(TRACK)
        desk.wish(0, 1, 4)
        self.assertIs(None, desk.unwish(1, 0))
        self.assertEqual(Lot(2, [(0, 1, 3)]), desk.wishes)
        desk.unwish(0, 1, many=3)
        self.assertEqual(Lot(2), desk.wishes)
        self.assertEqual((("wish", 0, 1, 4), ("unwish", 0, 1, 1), ("unwish", 0, 1, 3)), desk.log)

    def test_too_many(self):
        desk = Desk(STAR)
        self.refused(NotPart, {"a": 0, "b": 2}, desk, desk.unwish, 2, 0)
        desk.wish(1, 3)
        self.refused(NotPart, {"a": 1, "b": 3}, desk, desk.unwish, 3, 1, 2)
        self.refused(NotPart, {"a": 0, "b": 2}, desk, desk.unwish, 0, 2)


class Widen(Desks):

    def test_widths(self):
        desk = Desk(ODD)
        self.assertIs(None, desk.widen(2, 4))
        self.assertEqual((2, 2, 7), desk.board.widths)
        desk.widen(track=0, by=-1)
        self.assertEqual((1, 2, 7), desk.board.widths)
        self.assertEqual(ODD.turns, desk.board.turns)
        self.assertEqual((("widen", 2, 4), ("widen", 0, -1)), desk.log)
        self.assertEqual((2, 2, 3), ODD.widths)

    def test_by_0(self):
        desk = Desk(TRACK)
        desk.widen(0, 0)
        self.assertEqual((("widen", 0, 0),), desk.log)
        self.assertEqual(fields_of(TRACK), fields_of(desk.board))
        desk.undo()
        self.assertEqual((), desk.log)

    def test_barred(self):
        desk = Desk(TRACK)
        desk.wish(0, 1, 4)
        self.refused(Barred, {"first": 0, "last": 1, "held": 3, "wished": 4}, desk, desk.widen, 0, -2)
        desk.widen(0, -1)
        self.refused(Barred, {"first": 0, "last": 1, "held": 3, "wished": 4}, desk, desk.widen, 0, -1)
        desk.widen(0, 1)
        desk.wish(0, 1)
        self.assertEqual(Lot(2, [(0, 1, 5)]), desk.wishes)

    def test_errors_in_order(self):
        desk = Desk(STAR)
        desk.wish(0, 2)
        for track in NO_NUMBERS + (-1, 4):
            self.refused(BadTrack, {"track": track}, desk, desk.widen, track, -9)
        self.refused(BadWidth, {"track": 1}, desk, desk.widen, 1, -1)
        self.refused(BadWidth, {"track": 0}, desk, desk.widen, 0, -BIG)
        empty = Desk(EMPTY)
        self.refused(BadTrack, {"track": 0}, empty, empty.widen, 0, 1)

    def test_great_numbers(self):
        desk = Desk(grid_board(random.Random(821), 4, 16, 3) * (BIG // 5))
        desk.wish(0, 7, BIG // 10)
        desk.widen(3, BIG // 5)
        desk.unwish(7, 0, BIG // 20)
        self.assertEqual(BIG // 20, desk.wishes.between(0, 7))


class Undo(Desks):

    def test_one_after_the_other(self):
        desk = Desk(TRACK)
        states = [state(desk)]
        for deed in (lambda: desk.wish(0, 1, 4), lambda: desk.widen(0, 3), lambda: desk.unwish(0, 1),
                     lambda: desk.wish(0, 1), lambda: desk.widen(0, -1)):
            deed()
            states.append(state(desk))
        while len(states) > 1:
            self.assertEqual(states.pop(), state(desk))
            self.assertIs(None, desk.undo())
            self.assertEqual(states[-1], state(desk))
        self.refused(NothingToUndo, {}, desk, desk.undo)

    def test_deeds_behind_an_undone_one(self):
        desk = Desk(TRACK)
        desk.wish(0, 1)
        desk.wish(0, 1, 2)
        desk.undo()
        desk.wish(0, 1, 3)
        self.assertEqual((("wish", 0, 1, 1), ("wish", 0, 1, 3)), desk.log)
        desk.undo()
        desk.undo()
        self.assertEqual(Lot(2), desk.wishes)
        self.refused(NothingToUndo, {}, desk, desk.undo)

    def test_refused_deeds_are_not_undone(self):
        desk = Desk(TRACK)
        desk.wish(0, 1)
        self.refused(NotPart, {"a": 0, "b": 1}, desk, desk.unwish, 0, 1, 9)
        desk.undo()
        self.assertEqual((), desk.log)

    def test_nothing_to_undo(self):
        for board in (EMPTY, STAR):
            self.refused(NothingToUndo, {}, Desk(board), Desk(board).undo)

    def test_very_many_deeds(self):
        desk = Desk(TRACK)
        for _ in range(3000):
            desk.widen(0, 1)
        self.assertEqual(3000, len(desk.log))
        for _ in range(3000):
            desk.undo()
        self.assertEqual(fields_of(TRACK), fields_of(desk.board))
        del desk


class Trial(Desks):

    def test_everything_is_taken_back(self):
        desk = Desk(TRACK)
        desk.wish(0, 1)
        before = state(desk)
        with desk.trial():
            desk.wish(0, 1, 3)
            desk.widen(0, -1)
            self.assertEqual((("wish", 0, 1, 1), ("wish", 0, 1, 3), ("widen", 0, -1)), desk.log)
            self.assertEqual(Lot(2, [(0, 1, 4)]), desk.wishes)
            self.assertEqual((4,), desk.board.widths)
        self.assertEqual(before, state(desk))

    def test_asking_for_one_changes_nothing(self):
        desk = Desk(TRACK)
        desk.wish(0, 1)
        trial = desk.trial()
        desk.wish(0, 1)
        self.assertEqual(2, len(desk.log))
        desk.undo()
        desk.wish(0, 1, 3)
        before = state(desk)
        with trial:
            self.refused(NothingToUndo, {}, desk, desk.undo)
            desk.unwish(0, 1, 4)
        self.assertEqual(before, state(desk))
        with trial:
            desk.unwish(0, 1, 2)
            with trial:
                desk.unwish(0, 1)
                self.assertEqual(1, desk.wishes.total())
            self.assertEqual(2, desk.wishes.total())
        self.assertEqual(before, state(desk))

    def test_left_by_an_error(self):
        desk = Desk(TRACK)
        desk.wish(0, 1)
        before = state(desk)
        with self.assertRaises(ZeroDivisionError):
            with desk.trial():
                desk.wish(0, 1)
                raise ZeroDivisionError()
        self.assertEqual(before, state(desk))
        with self.assertRaises(BadPin):
            with desk.trial():
                desk.wish(0, 1)
                desk.wish(0, 2)
        self.assertEqual(before, state(desk))
        desk.undo()
        self.assertEqual((), desk.log)

    def test_left_by_a_return_and_by_a_break(self):
        desk = Desk(TRACK)

        def tried():
            with desk.trial():
                desk.wish(0, 1)
                return desk.wishes

        self.assertEqual(Lot(2, [(0, 1, 1)]), tried())
        self.assertEqual(Lot(2), desk.wishes)
        for _ in range(3):
            with desk.trial():
                desk.wish(0, 1)
                break
        self.assertEqual((), desk.log)

    def test_undo_takes_back_only_what_was_done_in_the_block(self):
        desk = Desk(TRACK)
        desk.wish(0, 1)
        desk.wish(0, 1, 2)
        before = state(desk)
        with desk.trial():
            self.refused(NothingToUndo, {}, desk, desk.undo)
            desk.unwish(0, 1)
            desk.undo()
            self.assertEqual(before, state(desk))
            self.refused(NothingToUndo, {}, desk, desk.undo)
            desk.unwish(0, 1)
        self.assertEqual(before, state(desk))
        # Behind the block it works as before it.
        desk.undo()
        self.assertEqual((("wish", 0, 1, 1),), desk.log)
        desk.undo()
        self.refused(NothingToUndo, {}, desk, desk.undo)

    def test_trials_in_trials(self):
        desk = Desk(TRACK)
        desk.wish(0, 1)
        outer = state(desk)
        with desk.trial():
            desk.widen(0, 2)
            inner = state(desk)
            with desk.trial():
                desk.wish(0, 1, 3)
                with desk.trial():
                    self.refused(NothingToUndo, {}, desk, desk.undo)
                    desk.wish(0, 1)
                desk.undo()
                self.assertEqual(inner, state(desk))
                self.refused(NothingToUndo, {}, desk, desk.undo)
                desk.unwish(0, 1)
            self.assertEqual(inner, state(desk))
            desk.undo()
            self.assertEqual(outer, state(desk))
            self.refused(NothingToUndo, {}, desk, desk.undo)
            desk.widen(0, 5)
        self.assertEqual(outer, state(desk))
        desk.undo()
        self.assertEqual((), desk.log)

    def test_an_error_that_leaves_two_blocks(self):
        desk = Desk(TRACK)
        desk.wish(0, 1)
        before = state(desk)
        with self.assertRaises(NotPart):
            with desk.trial():
                desk.wish(0, 1)
                with desk.trial():
                    desk.unwish(0, 1, 2)
                    desk.unwish(0, 1)
        self.assertEqual(before, state(desk))
        desk.undo()

    def test_an_error_that_is_caught_inside(self):
        desk = Desk(TRACK)
        with desk.trial():
            desk.wish(0, 1)
            with self.assertRaises(Barred):
                with desk.trial():
                    desk.wish(0, 1, 9)
            self.assertEqual(1, len(desk.log))
            desk.undo()
        self.assertEqual((), desk.log)

    def test_two_desks(self):
        one, two = Desk(TRACK), Desk(TRACK)
        with one.trial():
            two.wish(0, 1)
            with two.trial():
                one.wish(0, 1, 2)
                two.wish(0, 1, 3)
            self.assertEqual(2, one.wishes.total())
            self.assertEqual(1, two.wishes.total())
        self.assertEqual((0, 1), (one.wishes.total(), two.wishes.total()))


class Asking(Desks):

    def test_room(self):
        desk = Desk(STAR)
        self.assertEqual(1, desk.room(0, 2))
        desk.wish(0, 2)
        before = state(desk)
        self.assertEqual(0, desk.room(0, 1))
        self.assertEqual(1, desk.room(one=3, other=1))
        self.assertEqual(before, state(desk))
        desk.widen(1, 1)
        desk.widen(3, 3)
        self.assertEqual(2, desk.room(3, 1))
        for pin in NO_NUMBERS + (-1, 4):
            self.refused(BadPin, {"pin": pin}, desk, desk.room, pin, None)
            self.refused(BadPin, {"pin": pin}, desk, desk.room, 0, pin)
        self.refused(SamePin, {"pin": 1}, desk, desk.room, 1, 1)

    def test_room_for_just_so_many(self):
        rng = random.Random(840)
        for board in random_boards(840, 60, pins=7, length=60, even=False):
            desk = Desk(board)
            for _ in range(4 if board.pins >= 2 else 0):
                one, other = rng.sample(range(board.pins), 2)
                many = desk.room(one, other)
                self.assertEqual(room(board, desk.wishes, one, other), many)
                with self.assertRaises(Barred):
                    desk.wish(one, other, many + 1)
                if many:
                    desk.wish(one, other, rng.randint(1, many))

    def test_wires(self):
        desk = Desk(ODD)
        self.assertEqual((), desk.wires())
        desk.wish(0, 1)
        desk.wish(2, 1)
        before = state(desk)
        wires = desk.wires()
        self.assertTrue(only_tuples(wires))
        self.assertIs(True, are_wires(ODD * 2, desk.wishes * 2, wires))
        self.assertEqual(before, state(desk))
        self.assertEqual((), Desk(EMPTY).wires())

    def test_wires_on_many_boards(self):
        rng = random.Random(841)
        for board in (*random_boards(841, 80, pins=7, length=50, even=False), *SHAPES, ring_board(40)):
            desk = Desk(board)
            for _ in range(5 if board.pins >= 2 else 0):
                one, other = rng.sample(range(board.pins), 2)
                if desk.room(one, other):
                    desk.wish(one, other)
            if board.widths:
                desk.widen(rng.randrange(len(board.widths)), rng.randint(0, 3))
            self.assertIs(True, are_wires(desk.board * 2, desk.wishes * 2, desk.wires()))


class Perform(Desks):

    def test_outcomes(self):
        desk = Desk(TRACK)
        steps = (("wish", 1, 0, 3), ("wish", 0, 1, 3), ("widen", 0, -3), ("widen", 0, 0), ("unwish", 1, 0, 2),
                 ("undo",), ("undo",), ("undo",), ("undo",), ("wish", 0, 1, 1))
        due = ("done", "refused", "refused", "done", "done", "done", "done", "done", "refused", "done")
        self.assertEqual(due, perform(desk, steps))
        self.assertEqual((("wish", 0, 1, 1),), desk.log)
        self.assertEqual(due, perform(Desk(TRACK), as_lists(steps)))
        self.assertEqual((), perform(desk, ()))
        self.assertEqual((), perform(desk=desk, steps=[]))
        self.assertEqual((("wish", 0, 1, 1),), desk.log)

    def test_trials(self):
        desk = Desk(TRACK)
        steps = (("wish", 0, 1, 2), ("trial", (("undo",), ("wish", 0, 1, 3), ("wish", 0, 1, 1), ("undo",), ("undo",))),
                 ("trial", ()), ("wish", 0, 1, 3), ("trial", (("trial", (("unwish", 0, 1, 5),)), ("unwish", 0, 1, 6))),
                 ("undo",))
        due = ("done", ("refused", "done", "refused", "done", "refused"), (), "done", (("done",), "refused"), "done")
        found = perform(desk, steps)
        self.assertEqual(due, found)
        self.assertTrue(only_tuples(found))
        self.assertEqual((("wish", 0, 1, 2),), desk.log)
        found = perform(Desk(TRACK), as_lists(steps))
        self.assertEqual(due, found)
        self.assertTrue(only_tuples(found))

    def test_the_steps_stay(self):
        steps = as_lists((("wish", 1, 0, 2), ("trial", (("undo",), ("widen", 0, 1)))))
        before = as_lists(tuple(steps))
        perform(Desk(TRACK), steps)
        self.assertEqual([["wish", 1, 0, 2], ["trial", [["undo"], ["widen", 0, 1]]]], steps)
        self.assertEqual(before, steps)

    def test_steps_of_wrong_kinds(self):
        desk = Desk(STAR)
        for value in NO_NUMBERS + ("x", {}, STAR, -1, 4, 1.5):
            steps = [(word, *pins, 1) for word in ("wish", "unwish") for pins in ((value, 1), (1, value))]
            steps += [("widen", value, 1)]
            if value != 4 and value != 1:
                steps += [("wish", 0, 2, value), ["unwish", 0, 2, value]]
            self.assertEqual(("refused",) * len(steps), perform(desk, steps))
            self.assertEqual((("refused",) * len(steps),), perform(desk, [["trial", steps]]))
        self.assertEqual((), desk.log)

    def test_errors_that_are_not_of_this_package_go_on(self):
        desk = Desk(TRACK)
        before = state(desk)
        with self.assertRaises(TypeError):
            perform(desk, [("trial", [("wish", 0, 1, 1), None])])
        self.assertEqual(before, state(desk))

    def test_deep_trials(self):
        steps = (("wish", 0, 1, 1),)
        for _ in range(200):
            steps = (("wish", 0, 1, 1), ("undo",), ("trial", steps))
        desk = Desk(TRACK)
        found = perform(desk, steps)
        for _ in range(200):
            self.assertEqual(("done", "done"), found[:2])
            found = found[2]
        self.assertEqual(("done",), found)
        self.assertEqual((), desk.log)

    def plain(self, desk, steps):
        """The outcomes, by the deeds and trials of the desk itself."""
        outcomes = []
        for word, *rest in steps:
            if word == "trial":
                with desk.trial():
                    outcomes.append(self.plain(desk, rest[0]))
                continue
            before = state(desk)
            try:
                {"wish": desk.wish, "unwish": desk.unwish, "widen": desk.widen, "undo": desk.undo}[word](*rest)
            except RimError:
                outcomes.append("refused")
                self.assertEqual(before, state(desk))
            else:
                outcomes.append("done")
        return tuple(outcomes)

    def steps(self, rng, board, depth):
        found = []
        for _ in range(rng.randint(0, 8)):
            word = rng.choice(("wish", "wish", "unwish", "widen", "undo", "trial") if depth else ("wish", "undo"))
            if word in ("wish", "unwish"):
                found.append((word, rng.randint(0, board.pins), rng.randint(0, board.pins - 1), rng.randint(0, 2)))
            elif word == "widen":
                found.append((word, rng.randint(0, len(board.widths)), rng.randint(-2, 2)))
            else:
                found.append((word,) if word == "undo" else (word, self.steps(rng, board, depth - 1)))
        return found

    def test_by_the_deeds(self):
        rng = random.Random(850)
        told = []
        for board in random_boards(850, 300, pins=5, length=40, even=False):
            if board.pins:
                steps = self.steps(rng, board, 3)
                one, two = Desk(board), Desk(board)
                found = perform(one, steps)
                self.assertEqual(self.plain(two, steps), found)
                self.assertEqual(state(two), state(one))
                self.replayed(board, one)
                told += found
        self.assertGreater(told.count("done"), 100)
        self.assertGreater(told.count("refused"), 100)

    def replayed(self, board, desk):
        """The log tells deeds that lead to the same board and wishes."""
        again = Desk(board)
        self.assertEqual(("done",) * len(desk.log), perform(again, desk.log))
        self.assertEqual(state(desk), state(again))
        self.assertTrue(only_tuples(desk.log))
        lay_halves(desk.board, desk.wishes)
