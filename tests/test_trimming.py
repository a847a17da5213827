"""Point 45: needless stamps."""

import unittest

from stampsheets.errors import UnknownName
from stampsheets.stocks import Stock
from stampsheets.trimming import least_stocks, needless, trimmed
from tests.plain import all_subsets, in_order, plain_nets, random_pairs

STOCK = Stock(2, [("z", "ab"), ("x", "a-"), ("y", "-b"), ("w", "a-"), ("q", "qb")])


def plainly_trimmed(pairs, size):
    rest = list(pairs)
    for pair in reversed(pairs):
        others = [other for other in rest if other != pair]
        if pair[1] in plain_nets(others, size):
            rest = others
    return tuple(rest)


class TrimmingTest(unittest.TestCase):
    def test_needless(self):
        for name, wanted in [("z", True), ("x", True), ("y", False), ("w", True), ("q", False)]:
            self.assertIs(needless(STOCK, name), wanted, name)
        self.assertIs(needless(name="x", stock=STOCK.without("w")), False)
        for name in ["p", "", "no name"]:
            with self.assertRaises(UnknownName) as caught:
                needless(STOCK, name)
            self.assertEqual(caught.exception.name, name)

    def test_trimmed(self):
        self.assertEqual(trimmed(STOCK).stamps, (("x", "a-"), ("y", "-b"), ("q", "qb")))
        self.assertEqual(trimmed(stock=Stock(1, [("b", "a"), ("a", "a")])).names, ("b",))
        self.assertEqual(trimmed(Stock(3, ())), Stock(3, ()))
        self.assertEqual(len(STOCK), 5)

    def test_trimmed_looks_at_the_last_name_first(self):
        stock = Stock(2, [("x", "a-"), ("y", "-b"), ("z", "ab")])
        self.assertEqual(trimmed(stock).names, ("x", "y"))
        equal = Stock(1, [("x", "a"), ("y", "b"), ("z", "a"), ("w", "b")])
        self.assertEqual(trimmed(equal).names, ("x", "y"))

    def test_least_stocks(self):
        self.assertEqual(least_stocks(STOCK), (("x", "y", "q"), ("y", "w", "q")))
        self.assertEqual(least_stocks(stock=Stock(1, [("b", "a"), ("a", "a")])), (("b",), ("a",)))
        self.assertEqual(least_stocks(Stock(1, ())), ((),))

    def test_seven_and_twelve_stamps(self):
        pairs = [(f"n{k}", "-" * k + "a" + "-" * (6 - k)) for k in range(6)]
        stock = Stock(7, pairs + [("all", "aaaaaa-")])
        self.assertEqual(least_stocks(stock), (stock.names[:6],))
        stock = Stock(12, [(f"n{k}", "-" * k + "a" + "-" * (11 - k)) for k in range(11)] + [("q", "aa" + "-" * 10)])
        self.assertEqual(trimmed(stock).names, stock.names[:11])

    def test_against_all_sets(self):
        for seed in range(80):
            pairs = random_pairs(seed, 3, 5, "--a" if seed % 2 else "--ab")
            stock = Stock(3, pairs)
            nets = plain_nets(pairs, 3)
            alike = [one for one in all_subsets(stock.names)
                     if plain_nets([pair for pair in pairs if pair[0] in one], 3) == nets]
            fewest = min(len(one) for one in alike)
            wanted = in_order(stock.names, [one for one in alike if len(one) == fewest])
            self.assertEqual(least_stocks(stock), tuple(wanted))
            self.assertEqual(trimmed(stock).stamps, plainly_trimmed(pairs, 3))
            for name, stamp in pairs:
                others = [pair for pair in pairs if pair[0] != name]
                self.assertIs(needless(stock, name), stamp in plain_nets(others, 3))
