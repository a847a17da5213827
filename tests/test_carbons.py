"""Point 80: carbons and carbon pairs."""

import unittest

from stampsheets.carbons import carbon_layer, carbon_pairs, carbon_stock, pressed_pairs
from stampsheets.errors import UnknownName
from stampsheets.rows import pressed
from stampsheets.stocks import Stock
from tests.plain import all_subsets, random_pairs, rows_up_to

STOCK = Stock(2, [("x", "b-"), ("y", "ab"), ("z", "-b"), ("w", ".-")])
ALL = ((0, "."), (0, "a"), (0, "b"), (1, "b"))


class CarbonsTest(unittest.TestCase):
    def test_pairs(self):
        self.assertEqual(carbon_pairs(STOCK), ALL)
        self.assertEqual(carbon_pairs(stock=Stock(3, ())), ())
        every = Stock(1, [(letter, letter) for letter in "zyxwvutsrqponmlkjihgfedc"])
        self.assertEqual(carbon_pairs(every), tuple((0, letter) for letter in "cdefghijklmnopqrstuvwxyz"))

    def test_pressed_pairs(self):
        self.assertEqual(pressed_pairs(STOCK, ()), ())
        self.assertEqual(pressed_pairs(STOCK, ("w", "x")), ((0, "."), (0, "b")))
        self.assertEqual(pressed_pairs(row=["x", "y", "x", "z"], stock=STOCK), ((0, "a"), (0, "b"), (1, "b")))

    def test_unknown_names(self):
        for row, name in [(("x", "q", "p"), "q"), (["no name"], "no name"), (("", "x"), "")]:
            with self.assertRaises(UnknownName) as caught:
                pressed_pairs(STOCK, row)
            self.assertEqual(caught.exception.name, name)

    def test_carbon_stock(self):
        self.assertEqual(carbon_stock(STOCK), Stock(6, [
            ("x", "b---a-"), ("y", "ab-a-a"), ("z", "-b---a"), ("w", ".-a---"),
        ]))
        self.assertEqual(carbon_stock(stock=Stock(3, ())), Stock(3, ()))
        full = Stock(15, [("x", "a" * 15)])
        self.assertEqual(carbon_stock(full).stamps, (("x", "a" * 30),))

    def test_carbon_layer(self):
        self.assertEqual(carbon_layer(STOCK, "a-", ()), "a-....")
        self.assertEqual(carbon_layer(STOCK, "--", ALL), "--aaaa")
        self.assertEqual(carbon_layer(pairs=[[1, "b"], (0, "."), [1, "b"]], layer=".b", stock=STOCK), ".ba..a")
        self.assertEqual(carbon_layer(Stock(3, ()), "abc", ()), "abc")
        self.assertEqual(carbon_layer(Stock(15, [("x", "a" * 15)]), "-" * 15, ()), "-" * 15 + "." * 15)

    def test_each_pair_has_a_letter_or_a_dot(self):
        for chosen in all_subsets(ALL):
            signs = "".join("a" if pair in chosen else "." for pair in ALL)
            for layer in ("--", "a-", ".b"):
                self.assertEqual(carbon_layer(STOCK, layer, chosen), layer + signs)

    def test_the_carbon_shows_what_was_pressed(self):
        for seed in range(40):
            stock = Stock(2, random_pairs(seed, 2, 3))
            for row in rows_up_to("xyz", 3):
                put = {(cell, mark) for name in row for cell, mark in enumerate(stock.stamp(name)) if mark != "-"}
                in_order = tuple(sorted(put, key=lambda pair: (pair[0], ".abcdefghijklmnopqrstuvwxyz".index(pair[1]))))
                self.assertEqual(pressed_pairs(stock, row), in_order)
                made = pressed(carbon_stock(stock), carbon_layer(stock, "..", ()), row)
                self.assertEqual(made, carbon_layer(stock, pressed(stock, "..", row), pressed_pairs(stock, row)))
