"""Promises [86] and [87]."""

import random
import unittest

from rimcords.boardnotes import format_board, parse_board
from rimcords.boards import Board
from rimcords.building import course_of
from rimcords.cords import cords
from rimcords.coursenotes import format_course, parse_course
from rimcords.courses import Course
from rimcords.desks import Desk
from rimcords.duals import dual
from rimcords.errors import (
    BadCord, BadLanes, BadLetter, BadPins, BadTurn, BadWidth, DoubleEnd, LooseJoint, MissingEnd, NotPlane, NoteError,
    OddLand, SharedLand,
)
from rimcords.fencings import fences_laid
from rimcords.lotnotes import format_lot, parse_lot
from rimcords.lots import Lot
from rimcords.pairing import row_of
from rimcords.rowboards import board_of
from rimcords.rownotes import format_row, parse_row
from rimcords.rows import Row
from rimcords.straights import straight
from tests.boardhelpers import EMPTY, SHAPES, STAR, fields_of, random_boards, random_course
from tests.helpers import BIG, raised, random_lot
from tests.rowhelpers import random_row

GREAT = 10 ** 18
# What is no number in a note.
NO_NUMBERS = ("+1", "01", "-0", "-01", "00", "1_0", "", "-", "--1", "1.0", "1e3", "0x1", "x", "1-", "- 1", "\t1", "1\t",
              "1\r", "\u0661", "\u00b2", "\uff11", "1\u00a0", "\x0b1", "1,", "None", "True", "\u22121")
PARSERS = {"lot": parse_lot, "board": parse_board, "course": parse_course, "row": parse_row}
# Notes without any wrong line; the first line of each holds just one number, or none.
RIGHT = {
    "lot": "lot 3\n0 1 2\n1 2 1",
    "board": "board 2\nwidths 3\nturn 0\nturn 1",
    "course": "course\npin 0\ntrack 0 1\nmirror",
    "row": "row 2\ncross 0\ncap 0",
}


class Notes(unittest.TestCase):

    def wrong(self, line, kind, text):
        with self.subTest(text=text):
            raised(self, NoteError, {"line": line}, PARSERS[kind], text)

    def read(self, kind, text):
        return PARSERS[kind](text)


class Writing(Notes):

    def test_lots(self):
        self.assertEqual("lot 4\n0 2 2\n1 3 1", format_lot(Lot(4, [(0, 2, 2), (1, 3, 1)])))
        self.assertEqual("lot 4\n0 2 2\n1 3 1", format_lot(Lot(4, [(3, 1, 1), (2, 0, 1), (0, 2, 1)])))
        self.assertEqual("lot 0", format_lot(Lot(0)))
        self.assertEqual("lot 7", format_lot(lot=Lot(7)))
        self.assertEqual("lot 12\n9 10 1000000000", format_lot(Lot(12, [(10, 9, BIG)])))

    def test_boards(self):
        self.assertEqual("board 4\nwidths 1 1 1 1\nturn 0\nturn 2\nturn 4\nturn 6\nturn 1 3 5 7", format_board(STAR))
        self.assertEqual("board 0\nwidths", format_board(EMPTY))
        self.assertEqual("board 1\nwidths\nturn", format_board(board=Board(1, ((),), ())))
        self.assertEqual("board 2\nwidths 10\nturn 1 0\nturn", format_board(Board(2, [[1, 0], []], [10])))

    def test_courses(self):
        deeds = [("pin", 0), ("track", 1, 25), ("merge", 2), ("drop", -3), ("turn", -GREAT), ("mirror",)]
        self.assertEqual(f"course\npin 0\ntrack 1 25\nmerge 2\ndrop -3\nturn -{GREAT}\nmirror", format_course(Course(deeds)))
        self.assertEqual("course", format_course(course=Course()))

    def test_rows(self):
        row = Row(2, [("cup", 2), ("cross", 1), ("cap", 0)])
        self.assertEqual("row 2\ncup 2\ncross 1\ncap 0", format_row(row))
        self.assertEqual("row 0", format_row(row=Row(0)))
        self.assertEqual("row 24", format_row(Row(24)))


class Reading(Notes):

    def test_lots(self):
        self.assertEqual(Lot(3, [(0, 1, 2), (1, 2, 1)]), parse_lot(RIGHT["lot"]))
        self.assertEqual(Lot(0), parse_lot("lot 0"))
        self.assertEqual(Lot(9), parse_lot(text="lot 9"))
        # The entries stand in any order, and the same pins in several of them.
        self.assertEqual(Lot(4, [(0, 2, 7), (1, 3, 1)]), parse_lot("lot 4\n3 1 1\n0 2 3\n2 0 4"))

    def test_boards(self):
        self.assertEqual((2, ((0,), (1,)), (3,)), fields_of(parse_board(RIGHT["board"])))
        self.assertEqual((0, (), ()), fields_of(parse_board(text="board 0\nwidths")))
        self.assertEqual((1, ((),), ()), fields_of(parse_board("board 1\nwidths\nturn")))
        self.assertEqual(fields_of(STAR), fields_of(parse_board(format_board(STAR))))

    def test_courses(self):
        self.assertEqual(Course([("pin", 0), ("track", 0, 1), ("mirror",)]), parse_course(RIGHT["course"]))
        self.assertEqual(Course(), parse_course(text="course"))
        self.assertEqual((("turn", -GREAT), ("track", -1, 0)), parse_course(f"course\nturn -{GREAT}\ntrack -1 0").deeds)

    def test_rows(self):
        self.assertEqual(Row(2, [("cross", 0), ("cap", 0)]), parse_row(RIGHT["row"]))
        self.assertEqual(Row(5), parse_row(text="row 5"))
        self.assertEqual((("cup", 0), ("cap", 0)), parse_row("row 0\ncup 0\ncap 0").letters)


class WrongLines(Notes):

    def test_the_empty_text(self):
        for kind in PARSERS:
            self.wrong(1, kind, "")

    def test_a_line_feed_at_the_end(self):
        for kind, text in RIGHT.items():
            self.read(kind, text)
            self.wrong(len(text.split("\n")) + 1, kind, text + "\n")
            self.wrong(1, kind, "\n" + text)
        self.wrong(2, "lot", "lot 4\n")
        self.wrong(2, "course", "course\n")
        self.wrong(2, "board", "board 0\n")
        self.wrong(3, "board", "board 0\nwidths\n")
        self.wrong(2, "row", "row 4\n")

    def test_empty_lines(self):
        for kind, text in RIGHT.items():
            lines = text.split("\n")
            for place in range(len(lines) + 1):
                self.wrong(place + 1, kind, "\n".join(lines[:place] + [""] + lines[place:]))

    def test_blanks(self):
        for kind, text in RIGHT.items():
            lines = text.split("\n")
            for place, line in enumerate(lines):
                for wrong in (" " + line, line + " ", line.replace(" ", "  ") if " " in line else "  ",
                              line.replace(" ", "\t") if " " in line else "\t", line + "\t", line + "\r", "\ufeff" + line):
                    self.wrong(place + 1, kind, "\n".join(lines[:place] + [wrong] + lines[place + 1:]))

    def test_other_line_ends(self):
        for kind, text in RIGHT.items():
            for end in ("\r\n", "\r", "\x0b", "\x0c", "\x1c", "\u2028", "\x85"):
                self.wrong(1, kind, text.replace("\n", end))

    def test_first_words(self):
        for kind, text in RIGHT.items():
            for word in ("lot", "board", "course", "row", "Lot", "LOT", "lots", "", "0", "widths", "turn"):
                if word != kind:
                    self.wrong(1, kind, word + text[len(kind):])
        for line in ("width 3", "Widths 3", "3", "turn 3", "", "widths3"):
            self.wrong(2, "board", f"board 2\n{line}\nturn 0\nturn 1")
        for line in ("turns 1", "Turn 1", "1", "widths 1", "", "turn1"):
            self.wrong(4, "board", f"board 2\nwidths 3\nturn 0\n{line}")

    def test_numbers_of_numbers(self):
        for text in ("lot", "lot 1 2", "lot 3 0 1 1"):
            self.wrong(1, "lot", text)
        for line in ("0", "0 1", "0 1 2 3", "0 1 2 0 2 1"):
            self.wrong(3, "lot", f"lot 3\n0 1 1\n{line}\n1 2 1")
        for text in ("board", "board 1 2"):
            self.wrong(1, "board", text + "\nwidths\nturn")
        self.wrong(1, "course", "course 0\npin 0")
        for line in ("pin", "pin 0 0", "track 0", "track 0 1 2", "merge", "merge 0 1", "drop", "drop 0 0", "turn",
                     "turn 0 0", "mirror 0"):
            self.wrong(3, "course", f"course\npin 0\n{line}\npin 0")
        for text in ("row", "row 1 1"):
            self.wrong(1, "row", text)
        for line in ("cross", "cross 0 0", "cup", "cup 0 0", "cap", "cap 0 0"):
            self.wrong(3, "row", f"row 4\ncross 0\n{line}\ncap 0")

    def test_unknown_words(self):
        for line in ("open 0", "Pin 0", "pins 0", "cross 0", "beside 0", "0 0", "mirrored", "link 0 1"):
            self.wrong(2, "course", f"course\n{line}")
        for line in ("Cross 0", "crosses 0", "pin 0", "0 0", "cups 0", "mirror"):
            self.wrong(2, "row", f"row 4\n{line}")
        self.wrong(2, "lot", "lot 4\ncord 0 1 1")
        self.wrong(2, "lot", "lot 4\nlot 1 1")

    def test_numbers(self):
        for number in NO_NUMBERS:
            self.wrong(1, "lot", f"lot {number}\n0 1 1")
            self.wrong(2, "lot", f"lot 3\n{number} 1 1\nx")
            self.wrong(2, "lot", f"lot 3\n0 {number} 1\nx")
            self.wrong(3, "lot", f"lot 3\n0 2 1\n0 1 {number}\nx")
            self.wrong(1, "board", f"board {number}\nwidths 1\nturn 0\nturn 1")
            self.wrong(2, "board", f"board 2\nwidths 1 {number}\nturn 0\nturn x")
            self.wrong(2, "board", f"board 2\nwidths {number} 1\nturn 0\nturn x")
            self.wrong(4, "board", f"board 2\nwidths 1\nturn 0\nturn {number}")
            self.wrong(2, "course", f"course\npin {number}\nx")
            self.wrong(2, "course", f"course\ntrack {number} 1")
            self.wrong(3, "course", f"course\nmirror\ntrack 0 {number}")
            self.wrong(1, "row", f"row {number}\ncross 0")
            self.wrong(3, "row", f"row 4\ncross 0\ncup {number}")

    def test_missing_lines(self):
        self.wrong(2, "board", "board 0")
        self.wrong(2, "board", "board 5")
        self.wrong(2, "board", "board 2\nturn 0\nturn 1")
        self.wrong(2, "board", "board -1")

    def test_the_first_wrong_line_is_told(self):
        self.wrong(1, "lot", "lots 3\n0 1\n")
        self.wrong(2, "lot", "lot 3\n0 1\n0 9")
        self.wrong(1, "board", "board\nwidth")
        self.wrong(2, "board", "board 2\nwidth\nturns")
        self.wrong(3, "board", "board 2\nwidths\nturns\nturn x")
        self.wrong(2, "course", "course\npin\ndrop")
        self.wrong(2, "row", "row 2\ncross\ncross x")

    def test_wrong_lines_behind_what_else_is_wrong(self):
        self.wrong(3, "lot", "lot -1\n0 9 -4\n0 1")
        self.wrong(4, "board", "board -2\nwidths 0 -1\nturn 7 7\nturn x")
        self.wrong(3, "row", "row -2\ncross 9\ncap")
        self.wrong(3, "course", "course\ntrack -5 -5\ntrack 0")


class OtherErrors(Notes):

    def test_lots(self):
        raised(self, BadPins, {"pins": -1}, parse_lot, "lot -1\n0 1 1")
        for entry in ((0, 0, 1), (0, 3, 1), (-1, 0, 1), (0, 1, 0), (0, 1, -GREAT)):
            note = "lot 3\n0 2 1\n" + " ".join(map(str, entry)) + "\n9 9 9"
            raised(self, BadCord, {"entry": entry}, parse_lot, note)

    def test_boards(self):
        raised(self, BadPins, {"pins": -GREAT}, parse_board, f"board -{GREAT}\nwidths 0")
        raised(self, BadWidth, {"track": 1}, parse_board, "board 2\nwidths 1 0\nturn 0\nturn 1")
        raised(self, BadWidth, {"track": 0}, parse_board, "board 2\nwidths -7 0")
        raised(self, BadTurn, {"joint": 1}, parse_board, "board 2\nwidths\nturn")
        raised(self, BadTurn, {"joint": 0}, parse_board, "board 2\nwidths")
        raised(self, BadTurn, {"joint": 0}, parse_board, "board 1\nwidths 1\nturn -1")
        raised(self, DoubleEnd, {"end": 0}, parse_board, "board 1\nwidths 1\nturn 0 0")
        raised(self, MissingEnd, {"end": 1}, parse_board, "board 1\nwidths 1\nturn 0")
        raised(self, LooseJoint, {"joint": 1}, parse_board, "board 1\nwidths\nturn\nturn")
        raised(self, NotPlane, {"found": 1, "due": 3}, parse_board, "board 1\nwidths 1 1\nturn 0 2 1 3")

    def test_rows(self):
        raised(self, BadLanes, {"number": -3}, parse_row, "row -3\ncross 0")
        raised(self, BadLetter, {"place": 1, "letter": ("cap", 0)}, parse_row, "row 2\ncap 0\ncap 0")
        raised(self, BadLetter, {"place": 0, "letter": ("cup", -1)}, parse_row, "row 2\ncup -1\ncap 9")

    def test_numbers_below_zero_have_the_told_form(self):
        self.assertEqual((("pin", -1), ("track", -2, -3), ("turn", -4)), parse_course(
            "course\npin -1\ntrack -2 -3\nturn -4").deeds)


class ThereAndBack(Notes):

    def back(self, kind, thing):
        if kind == "lot":
            self.assertEqual(thing, parse_lot(format_lot(thing)))
        elif kind == "board":
            self.assertEqual(fields_of(thing), fields_of(parse_board(format_board(thing))))
        elif kind == "course":
            self.assertEqual(thing, parse_course(format_course(thing)))
        else:
            self.assertEqual(thing, parse_row(format_row(thing)))

    def test_lots(self):
        rng = random.Random(870)
        for _ in range(100):
            lot = random_lot(rng, rng.randint(0, 12), rng.randint(0, 20), BIG)
            for other in (lot, lot * BIG, lot.turned(1), lot.mirrored(), lot.beside(lot)):
                self.back("lot", other)
        self.back("lot", Lot(40, [(a, b, BIG) for a in range(40) for b in range(a + 1, 40)]))

    def test_boards(self):
        for board in (*random_boards(871, 60, pins=7, length=60), *SHAPES):
            self.back("board", board)
            self.back("lot", cords(board))
            self.back("board", straight(cords(board)))
            self.back("board", Board(*board.form))
            self.back("board", board.mirrored().turned(1))
            self.back("board", board * BIG)
            for track in range(len(board.widths)):
                self.back("board", board.cut(track))
            for gap in range(board.pins):
                self.back("board", board.opened(gap))
            try:
                self.back("board", dual(board))
                self.back("lot", fences_laid(board)[0])
            except (BadPins, SharedLand, OddLand):
                pass

    def test_courses(self):
        rng = random.Random(872)
        for _ in range(50):
            course = random_course(rng, rng.randint(0, 30), 6)
            self.back("course", course)
            for lot, board in zip(course.stages(Lot(0)), course.stages(EMPTY)):
                self.back("lot", lot)
                self.back("board", board)
        for board in random_boards(873, 30):
            self.back("course", course_of(board))
        self.back("course", Course([("turn", GREAT), ("turn", -GREAT), ("track", 0, BIG)]))

    def test_rows(self):
        rng = random.Random(874)
        for _ in range(60):
            row = random_row(rng, rng.randint(0, 8), rng.randint(0, 40))
            for other in (row, row.flipped(), row.shifted(2, 3), row_of(row.top, row.bottom, row.pairing)):
                self.back("row", other)
            self.back("lot", row.pairing)
            self.back("board", board_of(row))

    def test_desks(self):
        desk = Desk(STAR * 9)
        desk.wish(0, 2, 4)
        desk.widen(1, -3)
        self.back("board", desk.board)
        self.back("lot", desk.wishes)
