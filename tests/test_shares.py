"""Promises [77] to [79]."""

import itertools
import math
import random
import unittest

from rimcords.boards import Board
from rimcords.errors import BadNumber, BadPin, Barred, NoWishes, SamePin, UnlikePins
from rimcords.fences import fence_table
from rimcords.laying import lay_halves
from rimcords.lots import Lot
from rimcords.shares import loss, room, share, share_wires, survives
from rimcords.wires import are_wires
from tests.boardhelpers import EMPTY, SHAPES, STAR, fields_of, grid_board, random_boards, ring_board
from tests.helpers import BIG, NO_NUMBERS, all_lots, only_tuples, plain_table, raised, random_lot

TRACK = Board(2, ((0,), (1,)), (5,))
# Pins 0 and 1 in one land, and a track that leads from pin 0 round pin 1 to pin 0.
LOOP = Board(2, ((0, 1), ()), (3,))


def can_be_laid(board, wishes):
    """Whether the wishes can be laid in halves."""
    held, wished = fence_table(board), plain_table(wishes)
    return all(one >= other for row, others in zip(held, wished) for one, other in zip(row, others))


def all_losses(board, lost):
    """All losses of at most so many units."""
    found = [()]
    for track, width in enumerate(board.widths):
        found = [
            pairs + (((track, amount),) if amount else ()) for pairs in found
            for amount in range(min(width, lost - sum(taken for _, taken in pairs)) + 1)
        ]
    return found


def after_loss(board, pairs):
    """The board after a loss; tracks without width are cut."""
    for track, amount in reversed(pairs):
        if amount == board.widths[track]:
            joints = len(board.turns)
            board = board.cut(track)
            if len(board.turns) < joints:
                return None
        else:
            board = board.widened(track, -amount)
    return board


class Losses(unittest.TestCase):

    def checked(self, board, wishes, lost):
        """Checks the form of a loss and what it is for; tells whether the wishes survive."""
        found = loss(board, wishes, lost)
        self.assertIs(found is None, survives(board, wishes, lost))
        if found is not None:
            self.assertTrue(only_tuples(found))
            self.assertIs(tuple, found.__class__)
            tracks = [track for track, _ in found]
            self.assertEqual(sorted(set(tracks)), tracks)
            for track, amount in found:
                self.assertTrue(1 <= amount <= board.widths[track])
            self.assertLessEqual(sum(amount for _, amount in found), lost)
            self.assertFalse(self.laid_after(board, wishes, found))
        return found is None

    def laid_after(self, board, wishes, pairs):
        """Whether wishes can be laid after a loss, by the least costs of fences with the widths that are left."""
        left = dict(pairs)
        widths = [width - left.get(track, 0) for track, width in enumerate(board.widths)]
        lands = len(board.lands)
        costs = [[0 if i == j else math.inf for j in range(lands)] for i in range(lands)]
        for track, width in enumerate(widths):
            i, j = board.land_at(2 * track), board.land_at(2 * track + 1)
            costs[i][j] = costs[j][i] = min(costs[i][j], width)
        for over, i, j in itertools.product(range(lands), repeat=3):
            costs[i][j] = min(costs[i][j], costs[i][over] + costs[over][j])
        table = plain_table(wishes)
        places = [board.land_at(-1 - gap) for gap in range(len(table))]
        right = all(costs[places[i]][places[j]] >= wished for i, row in enumerate(table) for j, wished in enumerate(row))
        left_over = after_loss(board, pairs)
        if left_over is not None:
            self.assertIs(can_be_laid(left_over, wishes), right)
        return right

    def test_one_track(self):
        wishes = Lot(2, [(0, 1, 3)])
        for lost in range(8):
            self.assertIs(lost <= 2, self.checked(TRACK, wishes, lost))
        self.assertEqual(((0, 3),), loss(TRACK, wishes, 3))

    def test_losses_that_cut_tracks(self):
        self.assertEqual(((0, 5),), loss(TRACK, Lot(2, [(0, 1, 1)]), 5))
        self.assertIs(None, loss(TRACK, Lot(2, [(0, 1, 1)]), 4))
        found = loss(STAR, Lot(4, [(0, 2, 1)]), 1)
        self.assertIn(found, (((0, 1),), ((2, 1),)))

    def test_wishes_without_cords(self):
        for board in (*SHAPES, *random_boards(770, 20, even=False)):
            for lost in (0, 1, BIG):
                self.assertTrue(self.checked(board, Lot(board.pins), lost))

    def test_gaps_in_one_land(self):
        board = Board(3, ((), (), ()), ())
        self.assertEqual((), loss(board, Lot(3, [(0, 1, 1)]), 0))
        self.assertEqual((), loss(LOOP, Lot(2, [(0, 1, 1)]), 7))
        self.assertTrue(self.checked(LOOP, Lot(2), 7))

    def test_wishes_that_cannot_be_laid_anyhow(self):
        for lost in (0, 1, BIG):
            self.assertFalse(self.checked(TRACK, Lot(2, [(0, 1, 6)]), lost))
            self.assertFalse(self.checked(STAR, Lot(4, [(0, 1, 2)]), lost))
        self.assertEqual((), loss(TRACK, Lot(2, [(0, 1, 6)]), 0))

    def test_nothing_lost(self):
        rng = random.Random(771)
        for board in random_boards(771, 100, pins=6, length=40, even=False):
            wishes = random_lot(rng, board.pins, rng.randint(0, 3))
            self.assertIs(can_be_laid(board, wishes), self.checked(board, wishes, 0))

    def test_all_losses(self):
        rng = random.Random(772)
        answers = []
        boards = [board for board in (*random_boards(772, 150, pins=4, length=20, even=False), *SHAPES)
                  if len(board.widths) <= 7 and sum(board.widths) <= 14]
        for board in boards:
            for lost in range(4):
                wishes = random_lot(rng, board.pins, rng.randint(0, 2))
                due = all(self.laid_after(board, wishes, pairs) for pairs in all_losses(board, lost))
                self.assertIs(due, self.checked(board, wishes, lost))
                answers.append(due)
        self.assertGreater(answers.count(True), 50)
        self.assertGreater(answers.count(False), 50)

    def test_the_greatest_loss_that_is_survived(self):
        rng = random.Random(773)
        for board in random_boards(773, 60, pins=6, length=50, even=False):
            wishes = random_lot(rng, board.pins, 1)
            if len(wishes) and can_be_laid(board, wishes):
                held, wished = fence_table(board), plain_table(wishes)
                spare = min(cost - many for row, others in zip(held, wished) for cost, many in zip(row, others) if many)
                self.assertTrue(self.checked(board, wishes, spare))
                self.assertFalse(self.checked(board, wishes, spare + 1))

    def test_great_numbers(self):
        board = STAR * BIG
        wishes = Lot(4, [(0, 2, BIG - 7), (1, 3, 5)])
        self.assertTrue(self.checked(board, wishes, 7))
        self.assertFalse(self.checked(board, wishes, 8))
        self.assertFalse(self.checked(board, wishes, BIG))
        great = grid_board(random.Random(774), 4, 8, 3) * BIG
        self.assertTrue(self.checked(great, Lot(24, [(0, 9, 5)]), BIG - 5))
        self.assertFalse(self.checked(great, Lot(24, [(0, 9, 5)]), 5 * BIG))

    def test_the_board_stays(self):
        before = fields_of(STAR)
        loss(STAR, Lot(4, [(0, 2, 1)]), 3)
        self.assertEqual(before, fields_of(STAR))

    def test_errors_in_order(self):
        for call in (survives, loss):
            raised(self, UnlikePins, {"one": 4, "other": 3}, call, STAR, Lot(3, [(0, 1, 9)]), -1)
            raised(self, UnlikePins, {"one": 0, "other": 1}, call, EMPTY, Lot(1), None)
            for lost in NO_NUMBERS + (-1,):
                raised(self, BadNumber, {"number": lost}, call, STAR, Lot(4, [(0, 1, 9)]), lost)
                raised(self, BadNumber, {"number": lost}, call, EMPTY, Lot(0), lost=lost)


class Room(unittest.TestCase):

    def checked(self, board, wishes, one, other):
        """Checks that so many more wishes can be laid in halves, and no more."""
        many = room(board, wishes, one, other)
        if many > 0:
            self.assertTrue(can_be_laid(board, wishes + Lot(board.pins, [(one, other, many)])))
        self.assertFalse(can_be_laid(board, wishes + Lot(board.pins, [(one, other, many + 1)])))
        self.assertEqual(many, room(board, wishes, other, one))
        return many

    def test_few_wishes(self):
        self.assertEqual(1, self.checked(STAR, Lot(4), 0, 2))
        self.assertEqual(1, self.checked(STAR, Lot(4), 0, 1))
        self.assertEqual(0, self.checked(STAR, Lot(4, [(0, 2, 1)]), 0, 1))
        self.assertEqual(1, self.checked(STAR, Lot(4, [(0, 2, 1)]), 3, 1))
        self.assertEqual(3, self.checked(TRACK, Lot(2, [(0, 1, 2)]), 0, 1))
        self.assertEqual(5, room(board=TRACK, wishes=Lot(2), one=1, other=0))

    def test_no_way(self):
        self.assertEqual(0, self.checked(Board(3, ((), (), ()), ()), Lot(3), 0, 2))
        self.assertEqual(0, self.checked(LOOP, Lot(2), 0, 1))

    def test_laid_in_halves(self):
        rng = random.Random(780)
        for board in random_boards(780, 60, pins=6, length=40, even=False):
            wishes = random_lot(rng, board.pins, rng.randint(0, 2))
            if board.pins >= 2 and can_be_laid(board, wishes):
                one, other = rng.sample(range(board.pins), 2)
                many = self.checked(board, wishes, one, other)
                more = wishes + Lot(board.pins, [(one, other, many)] if many else [])
                self.assertIs(True, are_wires(board * 2, more * 2, lay_halves(board, more)))
                with self.assertRaises(Barred):
                    lay_halves(board, more + Lot(board.pins, [(one, other, 1)]))

    def test_random_boards(self):
        rng = random.Random(781)
        found = 0
        for board in random_boards(781, 200, pins=8, length=60, even=False):
            wishes = random_lot(rng, board.pins, rng.randint(0, 3), 2)
            if board.pins >= 2 and can_be_laid(board, wishes):
                found += self.checked(board, wishes, *rng.sample(range(board.pins), 2)) > 0
        self.assertGreater(found, 30)

    def test_great_numbers(self):
        board = ring_board(40) * BIG
        wishes = Lot(40, [(0, 20, BIG // 2)])
        self.assertGreater(self.checked(board, wishes, 1, 21), 10)
        self.assertEqual(BIG - 1, self.checked(STAR * BIG, Lot(4, [(0, 2, 1)]), 2, 3))

    def test_errors_in_order(self):
        over = Lot(4, [(0, 1, 9)])
        raised(self, UnlikePins, {"one": 4, "other": 3}, room, STAR, Lot(3), 9, 9)
        for pin in NO_NUMBERS + (-1, 4):
            raised(self, BadPin, {"pin": pin}, room, STAR, over, pin, -7)
            raised(self, BadPin, {"pin": pin}, room, STAR, over, 1, pin)
        raised(self, SamePin, {"pin": 2}, room, STAR, over, 2, 2)
        raised(self, Barred, {"first": 0, "last": 1, "held": 1, "wished": 9}, room, STAR, over, 2, 3)
        raised(self, BadPin, {"pin": 0}, room, EMPTY, Lot(0), 0, 0)

    def test_barred_as_in_halves(self):
        rng = random.Random(782)
        for board in random_boards(782, 60, pins=6, length=40, even=False):
            wishes = random_lot(rng, board.pins, 3, 2)
            if board.pins >= 2 and not can_be_laid(board, wishes):
                with self.assertRaises(Barred) as caught:
                    lay_halves(board, wishes)
                raised(self, Barred, vars(caught.exception), room, board, wishes, 0, 1)


class Share(unittest.TestCase):

    def checked(self, board, wishes):
        number, parts = found = share(board, wishes)
        self.assertIs(tuple, found.__class__)
        self.assertGreaterEqual(parts, 1)
        self.assertEqual(1, math.gcd(number, parts))
        pairs = [(cost, many) for row, others in zip(fence_table(board), plain_table(wishes))
                 for cost, many in zip(row, others)]
        self.assertTrue(all(number * many <= parts * cost for cost, many in pairs))
        # It cannot be greater, since somewhere just so many pass.
        self.assertTrue(any(many > 0 and number * many == parts * cost for cost, many in pairs))
        return found

    def wires(self, board, wishes):
        number, parts = self.checked(board, wishes)
        wires = share_wires(board, wishes)
        self.assertTrue(only_tuples(wires))
        self.assertIs(True, are_wires(board * (2 * parts), wishes * (2 * number), wires))

    def test_few_wishes(self):
        self.assertEqual((1, 1), self.checked(STAR, Lot(4, [(0, 2, 1), (1, 3, 1)])))
        self.assertEqual((1, 2), self.checked(STAR, Lot(4, [(0, 2, 1), (0, 1, 1)])))
        self.assertEqual((5, 3), self.checked(TRACK, Lot(2, [(0, 1, 3)])))
        self.assertEqual((5, 1), self.checked(TRACK, Lot(2, [(0, 1, 1)])))
        self.assertEqual((1, 3), self.checked(TRACK, Lot(2, [(0, 1, 15)])))
        self.assertEqual((3, 2), self.checked(TRACK.widened(0, 1), Lot(2, [(0, 1, 4)])))

    def test_cut_off(self):
        board = Board(4, ((0,), (), (1,), ()), (5,))
        self.assertEqual((0, 1), self.checked(board, Lot(4, [(0, 2, 3), (1, 3, 2)])))
        self.assertEqual((0, 1), self.checked(Board(3, ((), (), ()), ()), Lot(3, [(0, 1, 7)])))
        self.assertEqual((), share_wires(board, Lot(4, [(0, 2, 3), (1, 3, 2)])))
        self.assertEqual((5, 3), self.checked(board, Lot(4, [(0, 2, 3)])))

    def test_all_small_wishes(self):
        for board in random_boards(790, 30, pins=4, length=25, even=False):
            for wishes in all_lots(board.pins, 2):
                if len(wishes):
                    self.checked(board, wishes)

    def test_great_numbers(self):
        rng = random.Random(791)
        board = grid_board(rng, 4, 16, 3) * BIG
        for _ in range(5):
            self.checked(board, random_lot(rng, 40, 30, BIG))
        self.assertEqual((BIG - 1, BIG), self.checked(TRACK.widened(0, BIG - 6), Lot(2, [(0, 1, BIG)])))
        self.assertEqual((BIG, 1), self.checked(STAR * BIG, Lot(4, [(0, 1, 1)])))

    def test_wires(self):
        self.wires(STAR, Lot(4, [(0, 2, 1), (0, 1, 1)]))
        self.wires(TRACK, Lot(2, [(0, 1, 3)]))
        rng = random.Random(792)
        for board in random_boards(792, 150, pins=6, length=40, even=False):
            wishes = random_lot(rng, board.pins, rng.randint(1, 4), 2)
            if len(wishes) and sum(board.widths) * 2 * share(board, wishes)[1] <= 600:
                self.wires(board, wishes)

    def test_errors_in_order(self):
        for call in (share, share_wires):
            raised(self, UnlikePins, {"one": 4, "other": 3}, call, STAR, Lot(3))
            raised(self, UnlikePins, {"one": 4, "other": 3}, call, STAR, Lot(3, [(0, 1, 1)]))
            raised(self, NoWishes, {}, call, STAR, Lot(4))
            raised(self, NoWishes, {}, call, EMPTY, Lot(0))
            raised(self, NoWishes, {}, call, board=Board(1, ((),), ()), wishes=Lot(1))
