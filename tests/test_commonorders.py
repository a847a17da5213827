"""Point 41: one order that explains several sheets."""

import unittest
from random import Random

from stampsheets.commonorders import common_order, common_stuck
from stampsheets.stocks import Stock
from tests.plain import orders_that_lead, random_layer, random_pairs

STOCK = Stock(2, [("x", "aa"), ("y", "b-"), ("z", "-b")])


def plainly_stuck(pairs, layers):
    rest, lefts = list(pairs), list(layers)
    going = True
    while going:
        going = False
        for name, stamp in rest:
            if all(a == b or "-" in (a, b) for left in lefts for a, b in zip(left, stamp)):
                lefts = ["".join(a if b == "-" else "-" for a, b in zip(left, stamp)) for left in lefts]
                rest.remove((name, stamp))
                going = True
                break
    return tuple(name for name, stamp in rest)


class CommonOrderTest(unittest.TestCase):
    def test_ordinary(self):
        self.assertEqual(common_order(STOCK, [("..", "bb"), ("qq", "b-")]), ("x", "y", "z"))
        self.assertEqual(common_order(STOCK, [("..", "-a"), ("..", "b-")]), ("z", "x", "y"))
        self.assertEqual(common_stuck(STOCK, [("..", "-a"), ("..", "b-")]), ())
        # Each of the two sheets has an order, but not the same one.
        apart = [("..", "-a"), ("..", "-b")]
        for pair in apart:
            self.assertIsNotNone(common_order(STOCK, [pair]))
        self.assertIsNone(common_order(STOCK, apart))
        self.assertEqual(common_stuck(STOCK, apart), ("x", "z"))
        self.assertEqual(common_stuck(STOCK, [("..", "cc"), ("..", "bb")]), ("x", "y", "z"))

    def test_no_pairs(self):
        self.assertEqual(common_order(STOCK, ()), ("x", "y", "z"))
        self.assertEqual(common_stuck(STOCK, []), ())
        self.assertEqual(common_order(Stock(1, ()), ()), ())

    def test_empty_stock(self):
        empty = Stock(1, ())
        self.assertEqual(common_order(empty, [("a", "a"), ("b", "-")]), ())
        self.assertIsNone(common_order(empty, [("a", "a"), ("b", "a")]))
        self.assertEqual(common_stuck(empty, [("a", "b")]), ())

    def test_cells_that_no_stamp_covers(self):
        stock = Stock(2, [("x", "a-")])
        for start, order in [("..", ("x",)), (".-", ("x",)), (".c", None)]:
            self.assertEqual(common_order(stock, [("..", "a."), (start, "a.")]), order)
            self.assertEqual(common_stuck(stock, [("..", "a."), (start, "a.")]), ())

    def test_lists_and_names(self):
        pairs = [["..", "-a"], ["..", "b-"]]
        self.assertEqual(common_order(pairs=pairs, stock=STOCK), ("z", "x", "y"))
        self.assertEqual(common_stuck(pairs=[["..", "-a"], ["..", "-b"]], stock=STOCK), ("x", "z"))
        self.assertEqual(pairs, [["..", "-a"], ["..", "b-"]])

    def test_seven_stamps_and_four_pairs(self):
        stock = Stock(2, [(name, "a-" if name < "w" else "-b") for name in "zyxwvut"])
        pairs = [("..", "ab"), ("..", "a-"), ("cc", "-b"), ("--", "--")]
        self.assertEqual(common_order(stock, pairs), tuple("zyxwvut"))
        self.assertIsNone(common_order(stock, pairs[:3] + [("..", "b-")]))
        self.assertEqual(common_stuck(stock, pairs[:3] + [("..", "b-")]), ("v", "u", "t"))

    def test_against_all_orders(self):
        found = 0
        for seed in range(250):
            random = Random(seed)
            pairs = random_pairs(seed, 3, 4, "---ab")
            couples = [(random_layer(random, 3, "--z"), random_layer(random, 3, "--ab"))
                       for _ in range(random.randrange(1, 5))]
            orders = set(orders_that_lead(pairs, *couples[0]))
            for couple in couples[1:]:
                orders &= set(orders_that_lead(pairs, *couple))
            first = min(orders, key=lambda row: ["xyzu".index(name) for name in row], default=None)
            found += first is not None
            self.assertEqual(common_order(Stock(3, pairs), couples), first)
            stuck = plainly_stuck(pairs, [seen for start, seen in couples])
            self.assertEqual(common_stuck(Stock(3, pairs), couples), stuck)
        self.assertGreater(found, 40)
