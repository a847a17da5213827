"""Point 46: the net stamps of all rows."""

import unittest

from stampsheets.errors import SizesDiffer
from stampsheets.nets import common_stamps, net_stamps, net_table
from stampsheets.stocks import Stock
from tests.plain import over, plain_nets, random_pairs

STOCK = Stock(2, [("y", "-b"), ("x", "a-"), ("w", ".c")])


class NetsTest(unittest.TestCase):
    def test_ordinary(self):
        self.assertEqual(net_stamps(STOCK), ("-b", ".b", ".c", "a-", "ab", "ac"))
        self.assertEqual(net_table(STOCK), (
            (0, "y", 0), (0, "x", 4), (0, "w", 2), (1, "y", 1), (1, "x", 4), (1, "w", 2), (2, "y", 1), (2, "x", 5),
            (2, "w", 2), (3, "y", 4), (3, "x", 3), (3, "w", 2), (4, "y", 4), (4, "x", 4), (4, "w", 2), (5, "y", 4),
            (5, "x", 5), (5, "w", 2)))

    def test_common(self):
        other = Stock(2, [("x", "a-"), ("y", "ab"), ("v", "ac"), ("u", "-d")])
        self.assertEqual(common_stamps(STOCK, other), ("a-", "ab", "ac"))
        self.assertEqual(common_stamps(two=STOCK, one=other), ("a-", "ab", "ac"))
        self.assertEqual(common_stamps(STOCK, STOCK), net_stamps(STOCK))
        self.assertEqual(common_stamps(STOCK, Stock(2, [("x", "-d")])), ())

    def test_sizes_differ(self):
        with self.assertRaises(SizesDiffer) as caught:
            common_stamps(Stock(1, ()), STOCK)
        self.assertEqual((caught.exception.one, caught.exception.two), (1, 2))

    def test_empty_and_equal_stamps(self):
        empty = Stock(2, ())
        self.assertEqual((net_stamps(empty), net_table(empty)), ((), ()))
        self.assertEqual(common_stamps(empty, STOCK), ())
        self.assertEqual(common_stamps(STOCK, empty), ())
        equal = Stock(1, [("b", "a"), ("a", "a")])
        self.assertEqual(net_stamps(stock=equal), ("a",))
        self.assertEqual(net_table(stock=equal), ((0, "b", 0), (0, "a", 0)))

    def test_many(self):
        stock = Stock(12, [(f"n{k}", "-" * k + "a" + "-" * (11 - k)) for k in range(8)])
        self.assertEqual(len(net_stamps(stock)), 255)
        self.assertEqual(len(net_table(stock)), 255 * 8)

    def test_against_all_rows(self):
        for seed in range(60):
            pairs, others = random_pairs(seed, 3, 3), random_pairs(seed + 500, 3, 4, "-a")
            stock = Stock(3, pairs)
            layers = sorted(plain_nets(pairs, 3) - {"---"})
            self.assertEqual(net_stamps(stock), tuple(layers))
            both = plain_nets(pairs, 3) & plain_nets(others, 3) - {"---"}
            self.assertEqual(common_stamps(stock, Stock(3, others)), tuple(sorted(both)))
            wanted = [(k, name, layers.index(over(layer, stamp))) for k, layer in enumerate(layers)
                      for name, stamp in pairs]
            self.assertEqual(net_table(stock), tuple(wanted))
