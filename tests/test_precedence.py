"""Point 39: which stamp comes after which, and the places of a name."""

import unittest

from stampsheets.errors import UnknownName
from stampsheets.precedence import over_pairs, place_range
from stampsheets.stocks import Stock
from tests.plain import layers_of, orders_that_lead, random_pairs

STOCK = Stock(2, [("x", "a-"), ("y", "-b"), ("z", "ac"), ("w", "q-")])


class PrecedenceTest(unittest.TestCase):
    def test_ordinary(self):
        self.assertEqual(over_pairs(STOCK, "..", "ab"), (("y", "z"),))
        self.assertEqual(place_range(STOCK, "..", "ab", "z"), (0, 2))
        self.assertEqual(place_range(STOCK, "..", "ab", "y"), (1, 3))
        self.assertEqual(place_range(STOCK, "..", "ab", "w"), (0, 2))
        chain = Stock(3, [("z", "aaa"), ("x", "-b-"), ("y", "-cc")])
        self.assertEqual(over_pairs(chain, "...", "abc"), (("x", "z"), ("x", "y"), ("y", "z")))
        for place, name in enumerate(["z", "y", "x"]):
            self.assertEqual(place_range(chain, "...", "abc", name), (place, place))

    def test_by_name(self):
        self.assertEqual(over_pairs(seen="ab", start="..", stock=STOCK), (("y", "z"),))
        self.assertEqual(place_range(name="x", seen="ab", start="..", stock=STOCK), (0, 3))

    def test_no_order_leads(self):
        for start, seen in [("..", "cc"), ("..", "pb")]:
            self.assertIsNone(over_pairs(STOCK, start, seen))
            self.assertIsNone(place_range(STOCK, start, seen, "x"))
        bare = Stock(2, [("x", "a-")])
        self.assertIsNone(over_pairs(bare, ".b", "a."))
        self.assertIsNone(place_range(bare, ".b", "a.", "x"))
        self.assertEqual(over_pairs(bare, ".-", "a."), ())
        self.assertEqual(place_range(bare, "..", "a.", "x"), (0, 0))

    def test_unknown_name_comes_first(self):
        for stock, seen in [(STOCK, "ab"), (STOCK, "pp"), (Stock(2, ()), "ab")]:
            for name in ["q", "", "no name"]:
                with self.assertRaises(UnknownName) as caught:
                    place_range(stock, "zz", seen, name)
                self.assertEqual(caught.exception.name, name)

    def test_empty_stock(self):
        self.assertEqual(over_pairs(Stock(1, ()), "a", "a"), ())
        self.assertIsNone(over_pairs(Stock(1, ()), "a", "b"))

    def test_equal_stamps_and_seven(self):
        stock = Stock(1, [(name, "a") for name in "tuvwxyz"])
        self.assertEqual(over_pairs(stock, ".", "a"), ())
        self.assertEqual(place_range(stock, ".", "a", "v"), (0, 6))
        tower = Stock(7, [(name, "-" * k + "abcdefg"[k] * (7 - k)) for k, name in enumerate("tuvwxyz")])
        later = tuple((a, b) for a in "tuvwxyz" for b in "tuvwxyz" if a > b)
        self.assertEqual(over_pairs(tower, "." * 7, "abcdefg"), later)
        self.assertEqual(place_range(tower, "." * 7, "abcdefg", "w"), (3, 3))

    def test_against_all_orders(self):
        for seed in range(60):
            pairs = random_pairs(seed, 2, 4)
            for start in ["zz", "-a"]:
                for seen in layers_of(2, "-ab"):
                    self.check(pairs, Stock(2, pairs), start, seen)

    def check(self, pairs, stock, start, seen):
        orders = orders_that_lead(pairs, start, seen)
        if not orders:
            self.assertIsNone(over_pairs(stock, start, seen))
            self.assertIsNone(place_range(stock, start, seen, "x"))
            return
        wanted = tuple((a, b) for a in "xyzu" for b in "xyzu"
                       if a != b and all(row.index(a) > row.index(b) for row in orders))
        self.assertEqual(over_pairs(stock, start, seen), wanted)
        for name in "xyzu":
            places = [row.index(name) for row in orders]
            self.assertEqual(place_range(stock, start, seen, name), (min(places), max(places)))
