"""Point 43: which rows do the same."""

import unittest
from random import Random

from stampsheets.effects import commute, least_same_row
from stampsheets.errors import UnknownName
from stampsheets.rows import net_stamp
from stampsheets.stocks import Stock
from tests.plain import press_row, random_pairs, rows_up_to

STOCK = Stock(2, [("y", "-b"), ("x", "a-"), ("z", "ab"), ("w", "a-")])


class EffectsTest(unittest.TestCase):
    def test_ordinary(self):
        self.assertEqual(least_same_row(STOCK, ("x", "y")), ("z",))
        self.assertEqual(least_same_row(STOCK, ["w", "w", "w"]), ("x",))
        self.assertEqual(least_same_row(row=("x", "z"), stock=STOCK), ("z",))
        self.assertEqual(least_same_row(STOCK.without("z"), ("w", "y")), ("y", "x"))
        self.assertEqual(least_same_row(STOCK, ()), ())
        self.assertEqual(least_same_row(Stock(1, ()), []), ())

    def test_longest(self):
        self.assertEqual(least_same_row(STOCK, ["w"] * 59 + ["y"]), ("z",))
        names = [f"n{k}" for k in range(8)]
        stock = Stock(8, [(name, "-" * k + "a" + "-" * (7 - k)) for k, name in enumerate(names)])
        self.assertEqual(least_same_row(stock, names[::-1] * 7), tuple(names))

    def test_commute(self):
        self.assertIs(commute(STOCK, "x", "y"), True)
        self.assertIs(commute(STOCK, "x", "w"), True)
        self.assertIs(commute(STOCK, "x", "x"), True)
        stock = Stock(2, [("x", "a-"), ("y", "bb"), ("z", "ba")])
        self.assertIs(commute(stock, "x", "y"), False)
        self.assertIs(commute(two="z", one="y", stock=stock), False)

    def test_unknown_names(self):
        for row, name in [(("x", "q", "no name"), "q"), (["no name"], "no name"), (("",), "")]:
            with self.assertRaises(UnknownName) as caught:
                least_same_row(STOCK, row)
            self.assertEqual(caught.exception.name, name)
        for one, two, name in [("q", "p", "q"), ("x", "no name", "no name"), ("", "x", "")]:
            with self.assertRaises(UnknownName) as caught:
                commute(STOCK, one, two)
            self.assertEqual(caught.exception.name, name)

    def test_against_all_rows(self):
        for seed in range(40):
            pairs = random_pairs(seed, 3, 3, "--ab")
            stock = Stock(3, pairs)
            first = {}
            for row in rows_up_to("xyz", 4):
                first.setdefault(press_row(pairs, "---", row), row)
            for row in rows_up_to("xyz", 4):
                self.assertEqual(least_same_row(stock, row), first[press_row(pairs, "---", row)])
            for one in "xyz":
                for two in "xyz":
                    same = press_row(pairs, "---", one + two) == press_row(pairs, "---", two + one)
                    self.assertIs(commute(stock, one, two), same)

    def test_equal_exactly_if_they_do_the_same(self):
        for seed in range(40):
            stock = Stock(3, random_pairs(seed, 3, 5))
            random = Random(seed)
            one, two = [[random.choice("xyzuv") for _ in range(6)] for _ in range(2)]
            same = net_stamp(stock, one) == net_stamp(stock, two)
            self.assertIs(least_same_row(stock, one) == least_same_row(stock, two), same)
