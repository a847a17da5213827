"""Point 37: orders."""

import unittest

from stampsheets.orders import all_orders, order_count
from stampsheets.stocks import Stock
from tests.plain import layers_of, orders_that_lead, random_pairs

STOCK = Stock(2, [("x", "a-"), ("y", "-b"), ("z", "ac")])


class OrdersTest(unittest.TestCase):
    def test_ordinary(self):
        self.assertEqual(list(all_orders(STOCK, "..", "ab")), [("x", "z", "y"), ("z", "x", "y"), ("z", "y", "x")])
        self.assertEqual(order_count(STOCK, "..", "ab"), 3)
        self.assertEqual(list(all_orders(STOCK, "..", ".b")), [])
        self.assertEqual(order_count(STOCK, "..", ".b"), 0)
        self.assertEqual(order_count(seen="--", start="..", stock=STOCK), 6)
        self.assertEqual(next(all_orders(seen="--", start="..", stock=STOCK)), ("x", "y", "z"))

    def test_cells_that_no_stamp_covers(self):
        stock = Stock(2, [("x", "a-")])
        self.assertEqual(list(all_orders(stock, "..", "a.")), [("x",)])
        self.assertEqual(list(all_orders(stock, ".b", "a.")), [])
        self.assertEqual(order_count(stock, ".b", "a."), 0)
        self.assertEqual(list(all_orders(stock, ".-", "a.")), [("x",)])

    def test_empty_stock(self):
        empty = Stock(1, ())
        self.assertEqual(list(all_orders(empty, "a", "a")), [()])
        self.assertEqual(order_count(empty, "a", "-"), 1)
        self.assertEqual(list(all_orders(empty, "a", "b")), [])
        self.assertEqual(order_count(empty, "a", "b"), 0)

    def test_seven_stamps(self):
        stock = Stock(1, [(name, "a") for name in "tuvwxyz"])
        orders = all_orders(stock, ".", "a")
        self.assertEqual(next(orders), tuple("tuvwxyz"))
        self.assertEqual(next(orders), tuple("tuvwxzy"))
        self.assertEqual(order_count(stock, ".", "a"), 5040)
        self.assertEqual(len(list(orders)), 5038)

    def test_begins_with_the_first_item(self):
        self.assertIsNotNone(all_orders(None, None, None))

    def test_against_all_orders(self):
        for seed in range(60):
            pairs = random_pairs(seed, 2, 4)
            for start in ["zz", "-a", "--"]:
                for seen in layers_of(2, "-ab"):
                    wanted = orders_that_lead(pairs, start, seen)
                    self.assertEqual(list(all_orders(Stock(2, pairs), start, seen)), wanted)
                    self.assertEqual(order_count(Stock(2, pairs), start, seen), len(wanted))
