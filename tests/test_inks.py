"""Points 76 to 78: ink stamps, ink stocks, and rows of presses on ink sheets."""

import unittest
from itertools import product

from stampsheets.errors import BadName, BadStamp, NameTaken, UnknownName
from stampsheets.inks import InkStock, ink_press, ink_pressed, is_ink_stamp
from stampsheets.stocks import Stock
from tests.inkcases import plain_press, press_inks, random_ink_pairs
from tests.plain import rows_up_to

PAIRS = (("x", (("set", 3), None)), ("y", (("add", 4), ("bleach", 1))), ("z", (None, ("set", 0))))
INKS = InkStock(2, PAIRS)


class IsInkStampTest(unittest.TestCase):
    def test_right(self):
        for value in [
            [("set", 0)], [["add", 1]], (("bleach", 7),), (["set", 7],), [("add", 7)],
        ]:
            self.assertIs(is_ink_stamp(value, 1), True, value)
        self.assertIs(is_ink_stamp(value=[None, ("add", 0), ("bleach", 0), ["set", 0]], size=4), True)
        self.assertIs(is_ink_stamp([None] * 9 + [("add", 4)], 10), True)

    def test_wrong_sizes(self):
        self.assertIs(is_ink_stamp([("set", 0)], 2), False)
        self.assertIs(is_ink_stamp([("set", 0)] * 3, 2), False)
        self.assertIs(is_ink_stamp([], 1), False)
        self.assertIs(is_ink_stamp((), 0), False)

    def test_wrong_items(self):
        for item in [
            ("set", 8), ("set", -1), ("set", True), ("set", False), ("set", None), ("set", "3"), ("set", (3,)),
            ("set",),
            ("set", 1, 2), (), [], ("Set", 1), ("", 1), ("dip", 1), 3, 0, True, "set", "a", "", {"set": 3}, object(),
            ("add", [1]), ["bleach", 9],
        ]:
            self.assertIs(is_ink_stamp([item], 1), False, item)
            self.assertIs(is_ink_stamp((("set", 3), item), 2), False, item)

    def test_what_changes_no_ink_sheet(self):
        for value in [[None], [None, None], [("add", 0)], [("bleach", 0), None, ("add", 0)]]:
            self.assertIs(is_ink_stamp(value, len(value)), False)

    def test_all_stamps_of_one_cell(self):
        items = [None] + [(deed, digit) for deed in ("set", "add", "bleach") for digit in range(8)]
        for item in items:
            changed = any(plain_press(str(digit), [item]) != str(digit) for digit in range(8))
            self.assertIs(is_ink_stamp([item], 1), changed)

    def test_values_that_are_no_sequences(self):
        for value in ["ab", "", None, 3]:
            self.assertIs(is_ink_stamp(value, 2), False)


class InkPressTest(unittest.TestCase):
    def test_ordinary(self):
        self.assertEqual(ink_press("0246", (("set", 5), ("add", 3), ("bleach", 6), None)), "5306")
        self.assertEqual(ink_press(stamp=[["add", 0], ["bleach", 0], ["set", 0]], sheet="771"), "770")

    def test_all_digits(self):
        for digit, told in product(range(8), range(8)):
            self.assertEqual(ink_press(str(digit), [("set", told)]), str(told))
            self.assertEqual(ink_press(str(digit), [("add", told)]), str(digit | told))
            self.assertEqual(ink_press(str(digit), [("bleach", told)]), str(digit & ~told))


class InkStockTest(unittest.TestCase):
    def test_fields(self):
        self.assertEqual((INKS.size, INKS.stamps, INKS.names), (2, PAIRS, ("x", "y", "z")))
        empty = InkStock(stamps=[], size=10)
        self.assertEqual((empty.size, empty.stamps, empty.names), (10, (), ()))
        ten = InkStock(1, [(f"n{k}", [("set", k % 8)]) for k in range(10)])
        self.assertEqual(len(ten.stamps), 10)

    def test_lists_and_later_changes(self):
        item = ["add", 4]
        stamp = [item, None]
        pairs = [["y", stamp]]
        inks = InkStock(2, pairs)
        item[1] = 7
        stamp[1] = ("set", 1)
        pairs.append(["z", stamp])
        self.assertEqual(inks.stamps, (("y", (("add", 4), None)),))
        for value in [inks.stamps, inks.stamps[0], inks.stamps[0][1], inks.stamps[0][1][0]]:
            self.assertIsInstance(value, tuple)

    def test_errors(self):
        good = [("set", 1), None]
        for pairs, kind, told in [
            ([("x", good), ("", good)], BadName, 1), ([("X", good)], BadName, 0), ([("ninechars", good)], BadName, 0),
            ([("1x", [None])], BadName, 0), ([("x", [("set", 1)])], BadStamp, 0),
            ([("x", good), ("x", [None, None])], BadStamp, 1), ([("x", good), ("y", [("add", 0), None])], BadStamp, 1),
            ([("x", [("set", True), None])], BadStamp, 0), ([("x", [(), None])], BadStamp, 0),
        ]:
            with self.assertRaises(kind) as caught:
                InkStock(2, pairs)
            self.assertEqual(caught.exception.index, told)
        with self.assertRaises(NameTaken) as caught:
            InkStock(2, [("x", good), ("y", good), ("y", good), ("", good)])
        self.assertEqual(caught.exception.name, "y")

    def test_equal(self):
        self.assertIs(INKS == InkStock(2, [[name, list(stamp)] for name, stamp in PAIRS]), True)
        self.assertIs(INKS != InkStock(2, PAIRS), False)
        for other in [InkStock(2, PAIRS[::-1]), InkStock(2, PAIRS[:2]), InkStock(3, ()), PAIRS, None, 2, Stock(2, ())]:
            self.assertIs(INKS == other, False)
        self.assertIs(InkStock(2, ()) == InkStock(3, ()), False)
        self.assertIs(InkStock(2, ()) == Stock(2, ()), False)


class InkPressedTest(unittest.TestCase):
    def test_ordinary(self):
        self.assertEqual(ink_pressed(INKS, "07", ("x", "y")), "76")
        self.assertEqual(ink_pressed(row=["y", "x", "z"], sheet="07", inks=INKS), "30")
        self.assertEqual(ink_pressed(INKS, "07", ()), "07")

    def test_unknown_names(self):
        for row, name in [(("x", "q", "p"), "q"), (["no name"], "no name"), (("y", ""), "")]:
            with self.assertRaises(UnknownName) as caught:
                ink_pressed(INKS, "07", row)
            self.assertEqual(caught.exception.name, name)

    def test_against_sets_of_colours(self):
        for seed in range(40):
            pairs = random_ink_pairs(seed, 2, 2)
            for row in rows_up_to("xy", 3):
                for sheet in ("00", "77", "25", "61"):
                    self.assertEqual(ink_pressed(InkStock(2, pairs), sheet, row), press_inks(pairs, sheet, row))
