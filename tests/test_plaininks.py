"""Point 77: ink sheets and ink stocks translated into layers."""

import unittest
from itertools import product

from stampsheets.inks import InkStock
from stampsheets.layers import is_sheet, press
from stampsheets.plaininks import ink_reading, plain_layer, plain_stamp, plain_stock
from stampsheets.stocks import Stock
from tests.inkcases import plain_press, random_ink_pairs, sheets_for


class PlainInksTest(unittest.TestCase):
    def test_layers(self):
        self.assertEqual([plain_layer(str(digit)) for digit in range(8)],
                         ["...", "a..", ".a.", "aa.", "..a", "a.a", ".aa", "aaa"])
        self.assertEqual(plain_layer(reading="1-6"), "a..---.aa")
        self.assertEqual(plain_layer("-" * 10), "-" * 30)

    def test_readings(self):
        self.assertEqual(ink_reading("a..---.aa"), "1-6")
        self.assertEqual(ink_reading(layer="..."), "0")
        for reading in ["".join(signs) for signs in product("01234567-", repeat=3)]:
            self.assertEqual(ink_reading(plain_layer(reading)), reading)
        self.assertEqual(ink_reading(plain_layer("0123456-70")), "0123456-70")

    def test_layers_that_are_no_readings(self):
        for layer in [
            "a", "-", "..", "....", "a..-", "-----", "b..", "..z", "---..b", "a.-", "-a.", "--.", ".--", "---a--",
            "-.-", "aaa.-.", "...---.a",
        ]:
            self.assertIsNone(ink_reading(layer), layer)

    def test_all_layers_of_three_cells(self):
        readings = [plain_layer(sign) for sign in "01234567-"]
        for layer in ["".join(signs) for signs in product("-.ab", repeat=3)]:
            self.assertIs(ink_reading(layer) is not None, layer in readings)

    def test_stamps(self):
        self.assertEqual(plain_stamp([("set", 5), ("add", 3), ("bleach", 6), None]), "a.aaa--..---")
        self.assertEqual(plain_stamp(stamp=(["set", 0], ["add", 0], ["bleach", 0])), "...------")
        self.assertEqual(plain_stamp([("set", 7), ("add", 7), ("bleach", 7)]), "aaaaaa...")

    def test_stocks(self):
        inks = InkStock(2, [("x", [("set", 3), None]), ("y", [("add", 4), ("bleach", 1)])])
        self.assertEqual(plain_stock(inks), Stock(6, [("x", "aa.---"), ("y", "--a.--")]))
        self.assertEqual(plain_stock(inks=InkStock(10, ())), Stock(30, ()))

    def test_presses_are_the_same(self):
        for seed in range(60):
            for name, stamp in random_ink_pairs(seed, 2, 3):
                for sheet in sheets_for("--"):
                    layer = press(plain_layer(sheet), plain_stamp(stamp))
                    self.assertTrue(is_sheet(layer))
                    self.assertEqual(ink_reading(layer), plain_press(sheet, stamp))
