"""The interface: each name in its file, with its parameters, and each method in its class itself."""

import importlib
import inspect
import unittest

FUNCTIONS = {
    "rims": {"gaps": "pins", "arc": "pins first last", "parts": "pins one other first last", "crosses": "a b c d"},
    "tables": {"table_of": "lot", "lot_of": "pins table", "bar": "lot wishes", "odd": "lot wishes"},
    "moves": {"moves": "lot", "is_move": "lot move", "moved": "lot move", "lowered": "pins move", "run": "lot course",
              "is_run": "lot course goal", "crossings": "lot", "bare": "lot"},
    "reaching": {"reach": "lot wishes"},
    "belows": {"below": "lot"},
    "fences": {"is_fence": "board first last steps", "fence_cost": "board steps", "prices": "board gap",
               "is_price_row": "board row", "fence": "board first last", "fence_table": "board",
               "cords_by_fences": "board"},
    "building": {"course_of": "board"},
    "cords": {"cords": "board"},
    "straights": {"straight": "lot"},
    "wires": {"wire_joints": "board wire", "are_wires": "board wishes wires", "load": "board wires"},
    "laying": {"own_wires": "board", "lay": "board wishes", "lay_halves": "board wishes"},
    "oddends": {"pairings": "pins", "lay_some": "board wishes", "refusals": "board wishes",
                "are_refusals": "board wishes items"},
    "likeness": {"alike": "one two", "never_worse": "one two", "parting": "one two"},
    "duals": {"dual": "board", "distance": "board one other", "distances": "board", "way": "board one other",
              "odd_lands": "board"},
    "fencings": {"fences_laid": "board", "are_fences_laid": "board lot fences"},
    "rowboards": {"board_of": "row"},
    "pairing": {"joined": "first second lanes", "alike_rows": "one two", "tight": "row",
                "row_of": "top bottom pairing", "rest": "row", "all_pairings": "top bottom"},
    "customs": {"most_across": "custom first last", "busiest": "custom first last",
                "breach": "board custom *spare=0"},
    "shares": {"survives": "board wishes lost", "loss": "board wishes lost", "room": "board wishes one other",
               "share": "board wishes", "share_wires": "board wishes"},
    "holes": {"least_fillers": "pins course wishes"},
    "desks": {"perform": "desk steps"},
    "lotnotes": {"format_lot": "lot", "parse_lot": "text"},
    "boardnotes": {"format_board": "board", "parse_board": "text"},
    "coursenotes": {"format_course": "course", "parse_course": "text"},
    "rownotes": {"format_row": "row", "parse_row": "text"},
}
METHODS = {
    ("lots", "Lot"): {
        "__init__": "pins cords=()", "between": "one other", "ends": "pin", "total": "", "__len__": "", "__iter__": "",
        "__add__": "other", "__sub__": "other", "__mul__": "number", "__eq__": "other", "__contains__": "wishes",
        "turned": "steps", "mirrored": "", "opened": "gap", "linked": "gap many=1", "merged": "gap", "dropped": "pin",
        "beside": "other *gap=None",
    },
    ("boards", "Board"): {
        "__init__": "pins turns widths", "__eq__": "other", "land_at": "item", "joint_of": "end", "ends": "joint",
        "odd_joints": "", "__mul__": "number", "widened": "track by", "cut": "track", "opened": "gap",
        "linked": "gap many=1", "merged": "gap", "dropped": "pin", "beside": "other *gap=None", "turned": "steps",
        "mirrored": "",
    },
    ("courses", "Course"): {
        "__init__": "deeds=()", "__call__": "start", "__add__": "other", "__len__": "", "__iter__": "",
        "__eq__": "other", "stages": "start",
    },
    ("rows", "Row"): {
        "__init__": "top letters=()", "__len__": "", "__eq__": "other", "__rshift__": "other", "__pow__": "number",
        "shifted": "left right", "flipped": "", "crossings": "",
    },
    ("customs", "Custom"): {"__init__": "pins caps barred=()", "__contains__": "wishes"},
    ("desks", "Desk"): {
        "__init__": "board", "wish": "one other many=1", "unwish": "one other many=1", "widen": "track by",
        "undo": "", "trial": "", "room": "one other", "wires": "",
    },
}
PROPERTIES = {("lots", "Lot"): ["table"], ("boards", "Board"): ["lands", "form"],
              ("rows", "Row"): ["lanes", "bottom", "pairing"]}
GENERATORS = [("moves", "moves"), ("belows", "below"), ("courses", "Course.stages"), ("oddends", "pairings"),
              ("pairing", "all_pairings")]


def told(parameter):
    """A parameter as it is written above."""
    star = "*" if parameter.kind == parameter.KEYWORD_ONLY else ""
    default = "" if parameter.default is parameter.empty else f"={parameter.default!r}"
    return star + parameter.name + default


def parameters(function):
    return " ".join(told(parameter) for parameter in inspect.signature(function).parameters.values())


class Interface(unittest.TestCase):

    def test_functions(self):
        for file, functions in FUNCTIONS.items():
            module = importlib.import_module("rimcords." + file)
            for name, due in functions.items():
                with self.subTest(file=file, name=name):
                    function = getattr(module, name)
                    self.assertEqual(module.__name__, function.__module__)
                    self.assertEqual(due, parameters(function))

    def test_methods(self):
        for (file, name), methods in METHODS.items():
            found = getattr(importlib.import_module("rimcords." + file), name)
            self.assertEqual("rimcords." + file, found.__module__)
            for method, due in methods.items():
                with self.subTest(file=file, method=method):
                    self.assertIn(method, vars(found))
                    self.assertEqual(("self " + due).strip(), parameters(vars(found)[method]))

    def test_properties(self):
        for (file, name), properties in PROPERTIES.items():
            found = getattr(importlib.import_module("rimcords." + file), name)
            for word in properties:
                self.assertIsInstance(vars(found)[word], property)

    def test_generators(self):
        for file, name in GENERATORS:
            place = importlib.import_module("rimcords." + file)
            for word in name.split("."):
                place = getattr(place, word)
            self.assertTrue(inspect.isgeneratorfunction(place))
