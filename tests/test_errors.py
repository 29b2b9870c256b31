"""Promise [2], and the list of errors in the interface."""

import unittest

from rimcords import errors

FIELDS = {
    "BadPins": "pins", "BadPin": "pin", "SamePin": "pin", "BadGap": "gap", "NoPair": "pins", "OddPin": "pin",
    "UnlikePins": "one other", "BadCord": "entry", "NotPart": "a b", "BadNumber": "number",
    "BadTable": "row column", "NoLot": "a b twice", "NoMove": "move", "OddEnds": "pins",
    "Barred": "first last held wished", "TooMany": "number", "BadWidth": "track", "BadTurn": "joint",
    "DoubleEnd": "end", "MissingEnd": "end", "LooseJoint": "joint", "NotPlane": "found due", "BadItem": "item",
    "BadJoint": "joint", "BadTrack": "track", "OddJoint": "joint", "BadDeed": "place deed",
    "Refused": "place deed", "BadWire": "wire", "SharedLand": "first last", "OddLand": "land",
    "BadLanes": "number", "BadLetter": "place letter", "UnlikeLanes": "one other", "BadPairing": "lot",
    "BadCap": "pin", "BadPair": "pair", "NoWishes": "", "NothingToUndo": "", "NoteError": "line",
}
AS_PASSED = ("BadPins", "BadPin", "BadGap", "BadNumber", "BadCord", "NoMove", "BadDeed", "BadWire", "BadLetter",
             "BadPair", "BadItem", "BadJoint", "BadTrack", "BadLanes")


class Errors(unittest.TestCase):

    def test_base(self):
        self.assertEqual((ValueError,), errors.RimError.__bases__)

    def test_just_these_classes_are_there(self):
        found = {name for name, value in vars(errors).items() if isinstance(value, type)}
        self.assertEqual(set(FIELDS) | {"RimError"}, found)

    def test_each_is_directly_below_the_base(self):
        for name in FIELDS:
            with self.subTest(name=name):
                self.assertEqual((errors.RimError,), getattr(errors, name).__bases__)

    def test_fields_by_position(self):
        for name, fields in FIELDS.items():
            with self.subTest(name=name):
                error = getattr(errors, name)(*range(10, 10 + len(fields.split())))
                for place, field in enumerate(fields.split()):
                    self.assertEqual(10 + place, getattr(error, field))

    def test_fields_by_name(self):
        for name, fields in FIELDS.items():
            with self.subTest(name=name):
                error = getattr(errors, name)(**{field: 20 + at for at, field in enumerate(fields.split())})
                for place, field in enumerate(fields.split()):
                    self.assertEqual(20 + place, getattr(error, field))

    def test_no_other_arguments(self):
        for name, fields in FIELDS.items():
            with self.subTest(name=name):
                with self.assertRaises(TypeError):
                    getattr(errors, name)(*range(len(fields.split()) + 1))

    def test_some_keep_the_very_thing_that_was_passed(self):
        passed = [1, [2]]
        for name in AS_PASSED:
            with self.subTest(name=name):
                fields = FIELDS[name].split()
                error = getattr(errors, name)(*[passed] * len(fields))
                self.assertIs(passed, getattr(error, fields[-1]))

    def test_other_sequences_are_tuples(self):
        pins = [1, 3]
        error = errors.OddEnds(pins)
        pins.append(5)
        self.assertEqual((1, 3), error.pins)
        self.assertEqual(("pin", 0), errors.Refused(2, ["pin", 0]).deed)

    def test_text_of_the_document(self):
        self.assertEqual("first 0, last 1, held 1, wished 3", str(errors.Barred(0, 1, 1, 3)))
