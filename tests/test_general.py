"""Points 2 to 4 and the interface: signatures, tuples, True and False, unchanged arguments."""

import copy
import importlib
import inspect
import unittest

from stampsheets.stocks import Stock

# Every name of the interface that has landed, under its file, with its arguments.
FUNCTIONS = {
    "layers": """is_layer(value) is_sheet(value) cells_of(one) agree(one,two) within(one,two) joined(one,two)
        freed(one,chosen) kept_at(one,chosen) empty_layer(size) filled(one) layer_order(one) press(one,two)""",
    "stocks": "is_name(value)",
    "rows": """pressed(stock,layer,row) net_stamp(stock,row) stages(stock,layer,row) last_covers(stock,row)
        seen_presses(stock,row) seen_row(stock,row) parting_sheet(stock,one,two)""",
    "peels": "peeled(left,stamp) on_top(stock,left) peeling(stock,seen)",
    "fastness": "is_fast(stock,seen,chosen) fast_cells(stock,seen) fast_sets(stock,seen)",
    "makings": "making(stock,start,seen) is_refusal(stock,start,seen,chosen) is_made(stock,start,seen,row)",
    "freeing": "freed_layers(stock,seen) step_table(stock,seen) is_step_table(stock,start,seen,least,table)",
    "shortest": "distance(stock,start,seen) shortest_row(stock,start,seen) shortest_count(stock,start,seen)",
    "reaching": "first_stuck(stock,marks)",
    "trails": "keeps(trail,start,row)",
}

METHODS = {
    ("stocks", "Stock"): """__init__(self,size,stamps) stamp(self,name) only(self,names) without(self,names)
        renamed(self,old,new) __len__(self) __contains__(self,name) __iter__(self) __eq__(self,other)
        __or__(self,other)""",
    ("peels", "Peeling"): "",
    ("makings", "Making"): "",
    ("trails", "Trail"): """__init__(self,stock,steps) with_look(self,index,layer) __len__(self) __iter__(self)
        __eq__(self,other) __add__(self,other)""",
}

PROPERTIES = [("stocks", "Stock", "names")]


def written(name, function):
    text = str(inspect.signature(function)).replace(" ", "")
    return name + text


class InterfaceTest(unittest.TestCase):
    def test_functions(self):
        for file, listed in FUNCTIONS.items():
            module = importlib.import_module("stampsheets." + file)
            for signature in listed.split():
                name = signature.partition("(")[0]
                function = getattr(module, name)
                self.assertEqual(function.__module__, "stampsheets." + file)
                self.assertEqual(written(name, function), signature)

    def test_classes(self):
        for (file, kind), listed in METHODS.items():
            module = importlib.import_module("stampsheets." + file)
            owner = getattr(module, kind)
            self.assertEqual(owner.__module__, "stampsheets." + file)
            for signature in listed.split():
                name = signature.partition("(")[0]
                self.assertIn(name, vars(owner))
                self.assertEqual(written(name, inspect.unwrap(vars(owner)[name])), signature)
        for file, kind, name in PROPERTIES:
            owner = getattr(importlib.import_module("stampsheets." + file), kind)
            self.assertIsInstance(vars(owner)[name], property)

    def test_init_holds_a_docstring_only(self):
        with open(importlib.import_module("stampsheets").__file__, encoding="ascii") as file:
            self.assertRegex(file.read(), r'\A"""[^"]+"""\n\Z')


STOCK = Stock(2, [["x", "a-"], ["y", "-b"], ["z", "a-"]])

# Calls with lists in the place of tuples; each is asked twice and must leave its arguments alone.
CALLS = [
    ("layers", "cells_of", ["a-"]),
    ("layers", "freed", ["ab", [1, 1]]),
    ("layers", "kept_at", ["ab", [1]]),
    ("layers", "is_layer", [["a"]]),
    ("rows", "pressed", [STOCK, "..", ["x", "y"]]),
    ("rows", "last_covers", [STOCK, ["x", "y"]]),
    ("rows", "seen_presses", [STOCK, ["x", "x"]]),
    ("rows", "seen_row", [STOCK, ["x", "x"]]),
    ("rows", "parting_sheet", [STOCK, ["x"], ["y"]]),
    ("peels", "on_top", [STOCK, "ab"]),
    ("fastness", "is_fast", [STOCK, "cc", [0, 0]]),
    ("fastness", "fast_cells", [STOCK, "cc"]),
    ("fastness", "fast_sets", [STOCK, "cc"]),
    ("makings", "is_refusal", [STOCK, "..", "cc", [1, 0]]),
    ("makings", "is_made", [STOCK, "..", "ab", ["x", "y"]]),
    ("freeing", "freed_layers", [STOCK, "ab"]),
    ("freeing", "step_table", [STOCK, "ab"]),
    ("freeing", "is_step_table", [STOCK, "..", "a-", 1, [["a-", 0], ["--", 1]]]),
    ("shortest", "distance", [STOCK, "..", "ab"]),
    ("shortest", "shortest_row", [STOCK, "..", "ab"]),
    ("shortest", "shortest_count", [STOCK, "..", "ab"]),
    ("reaching", "first_stuck", [STOCK, "ab"]),
]


def has_lists(value):
    if isinstance(value, (tuple, list)):
        return isinstance(value, list) or any(has_lists(item) for item in value)
    return False


def in_tuples(value):
    return tuple(in_tuples(item) for item in value) if isinstance(value, (list, tuple)) else value


class SequencesTest(unittest.TestCase):
    def test_answers(self):
        for file, name, arguments in CALLS:
            function = getattr(importlib.import_module("stampsheets." + file), name)
            before = copy.deepcopy(arguments)
            answer = function(*arguments)
            self.assertFalse(has_lists(answer), name)
            self.assertEqual(arguments, before, name)
            self.assertEqual(function(*arguments), answer, name)
            if name != "is_layer":
                self.assertEqual(function(*in_tuples(arguments)), answer, name)
            if name.startswith("is_"):
                self.assertIn(answer, [True, False])
                self.assertIsInstance(answer, bool)

    def test_fields_are_tuples(self):
        from stampsheets.makings import making
        from stampsheets.peels import peeling
        from stampsheets.trails import Trail
        made, refused = making(STOCK, "..", "ab"), making(STOCK, "..", "cc")
        end = peeling(STOCK, "ab")
        trail = Trail(STOCK, [["rows", ["x"]], ["look", "--"]])
        for value in [STOCK.stamps, STOCK.names, end.order, made.row, made.cells, refused.cells, trail.steps]:
            self.assertIsInstance(value, tuple)
            self.assertFalse(has_lists(value))
