"""Points 14 and 15: makings and refusals."""

import unittest

from stampsheets.errors import UnknownName
from stampsheets.layers import filled, press
from stampsheets.makings import is_made, is_refusal, making
from stampsheets.peels import peeling
from stampsheets.rows import pressed
from stampsheets.stocks import Stock
from tests.plain import all_subsets, can_make, fits, layers_of, leads, random_pairs, rows_up_to

STOCK = Stock(3, [("x", "aa-"), ("y", "-b-")])


class MakingTest(unittest.TestCase):
    def test_made(self):
        found = making(STOCK, "...", "ab.")
        self.assertIs(found.made, True)
        self.assertEqual((found.row, found.cells, found.cell), (("x", "y"), (), None))
        found = making(seen="-b-", start="...", stock=STOCK)
        self.assertEqual((found.made, found.row, found.cells, found.cell), (True, ("y",), (), None))
        found = making(STOCK, "...", "---")
        self.assertEqual((found.made, found.row), (True, ()))

    def test_not_made(self):
        found = making(STOCK, "...", "cca")
        self.assertIs(found.made, False)
        self.assertEqual((found.row, found.cells, found.cell), (None, (0, 1, 2), 0))
        found = making(STOCK, "c-.", "cca")
        self.assertEqual((found.made, found.row, found.cells, found.cell), (False, None, (0, 1, 2), 2))
        found = making(STOCK, "c--", "cca")
        self.assertEqual((found.made, found.row), (True, ()))

    def test_empty_stock(self):
        empty = Stock(1, ())
        self.assertEqual(making(empty, "a", "a").row, ())
        self.assertEqual(making(empty, "a", "b").cells, (0,))
        self.assertIs(is_made(empty, "a", "-", ()), True)
        self.assertIs(is_refusal(empty, "a", "b", [0]), True)

    def test_is_refusal(self):
        self.assertIs(is_refusal(STOCK, "c..", "cca", (0,)), False)
        self.assertIs(is_refusal(STOCK, "...", "cca", [2, 0, 1, 2]), True)
        self.assertIs(is_refusal(STOCK, "...", "cca", (2,)), True)
        self.assertIs(is_refusal(STOCK, "--a", "cca", (2,)), False)
        self.assertIs(is_refusal(STOCK, "---", "cca", (0, 1, 2)), False)
        self.assertIs(is_refusal(STOCK, "...", "aba", (0, 2)), False)
        self.assertIs(is_refusal(STOCK, "...", "cc-", (2,)), False)
        self.assertIs(is_refusal(chosen=(), seen="cca", start="...", stock=STOCK), False)

    def test_is_made(self):
        self.assertIs(is_made(STOCK, "...", "ab.", ["x", "y"]), True)
        self.assertIs(is_made(STOCK, "...", "ab.", ("y", "x")), False)
        self.assertIs(is_made(STOCK, "---", "ab.", ("x", "y")), True)
        self.assertIs(is_made(STOCK, "--a", "ab.", ("x", "y")), False)
        self.assertIs(is_made(STOCK, "...", "..-", ()), True)
        self.assertIs(is_made(row=["x"] * 60, seen="a--", start="b--", stock=STOCK), True)
        with self.assertRaises(UnknownName) as caught:
            is_made(STOCK, "...", "ab.", ["x", "q q", "w"])
        self.assertEqual(caught.exception.name, "q q")

    def test_all_small(self):
        for seed in range(12):
            pairs = random_pairs(seed, 2, 3, "-ab")
            stock = Stock(2, pairs)
            for start in layers_of(2, "-ab"):
                for seen in layers_of(2, "-ab"):
                    self.check(pairs, stock, start, seen)

    def check(self, pairs, stock, start, seen):
        found = making(stock, start, seen)
        end = peeling(stock, seen)
        self.assertIs(found.made, can_make(pairs, start, seen, "abz"))
        for chosen in all_subsets(range(2)):
            if is_refusal(stock, start, seen, chosen):
                self.assertIs(found.made, False)
        if found.made:
            self.assertEqual(found.row, end.order[::-1])
            self.assertTrue(fits(pressed(stock, filled(press(start, end.left)), found.row), seen))
            self.assertIs(is_made(stock, start, seen, found.row), True)
        else:
            self.assertIs(is_refusal(stock, start, seen, found.cells), True)
            differ = [k for k in range(2) if "-" not in (start[k], end.left[k]) and start[k] != end.left[k]]
            self.assertEqual(found.cell, differ[0])

    def test_is_made_on_all_sheets(self):
        for seed in range(6):
            pairs = random_pairs(seed, 2, 2, "-ab")
            for start in layers_of(2, "-ab"):
                for seen in layers_of(2, "-ab"):
                    for row in rows_up_to("xy", 3):
                        wanted = leads(pairs, start, seen, row, "abz")
                        self.assertIs(is_made(Stock(2, pairs), start, seen, row), wanted)
