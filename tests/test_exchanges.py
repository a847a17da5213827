"""Point 40: from one order to another by exchanging neighbours."""

import unittest

from stampsheets.errors import NoOrder
from stampsheets.exchanges import exchange_way
from stampsheets.stocks import Stock
from tests.plain import layers_of, orders_that_lead, random_pairs

STOCK = Stock(3, [("x", "a--"), ("y", "-b-"), ("z", "--c"), ("w", "--d")])


def turned_pairs(one, two):
    """Return how many pairs of names stand in different order in the rows."""
    return sum(one.index(a) < one.index(b) and two.index(a) > two.index(b) for a in one for b in one)


def exchanged(one, two):
    """Follow the words of the document, one exchange after the other."""
    row, way = list(one), [tuple(one)]
    for place in range(len(two) - 1, -1, -1):
        while row[place] != two[place]:
            at = row.index(two[place])
            row[at], row[at + 1] = row[at + 1], row[at]
            way.append(tuple(row))
    return tuple(way)


class ExchangeWayTest(unittest.TestCase):
    def test_ordinary(self):
        self.assertEqual(exchange_way(STOCK, "...", "abc", ("w", "x", "z", "y"), ("y", "w", "z", "x")), (
            ("w", "x", "z", "y"), ("w", "z", "x", "y"), ("w", "z", "y", "x"), ("w", "y", "z", "x"),
            ("y", "w", "z", "x")))

    def test_equal_orders(self):
        order = ("w", "x", "z", "y")
        self.assertEqual(exchange_way(STOCK, "...", "abc", order, order), (order,))
        self.assertEqual(exchange_way(Stock(1, ()), "a", "a", (), []), ((),))

    def test_lists_and_names(self):
        one, two = ["w", "z", "x", "y"], ["w", "z", "y", "x"]
        way = exchange_way(two=two, one=one, seen="abc", start="...", stock=STOCK)
        self.assertEqual(way, (("w", "z", "x", "y"), ("w", "z", "y", "x")))
        self.assertEqual((one, two), (["w", "z", "x", "y"], ["w", "z", "y", "x"]))

    def test_no_order(self):
        good = ["w", "x", "z", "y"]
        for bad in [
            [], ["w", "x", "z"], good + ["x"], ["w", "x", "z", "z"], ["z", "x", "w", "y"], ["w", "x", "z", "q"],
            ["no name"], [""] * 20, good[:3] + ["y "],
        ]:
            for one, two in [(bad, good), (good, bad), (bad, ["q"])]:
                with self.assertRaises(NoOrder) as caught:
                    exchange_way(STOCK, "...", "abc", one, two)
                self.assertEqual(caught.exception.row, tuple(bad))
        with self.assertRaises(NoOrder) as caught:
            exchange_way(Stock(1, ()), "a", "b", [], ())
        self.assertEqual(caught.exception.row, ())
        with self.assertRaises(NoOrder) as caught:
            exchange_way(Stock(2, [("x", "a-")]), ".b", "a.", ("x",), ("x",))
        self.assertEqual(caught.exception.row, ("x",))

    def test_seven_stamps(self):
        stock = Stock(1, [(name, "a") for name in "tuvwxyz"])
        way = exchange_way(stock, ".", "a", tuple("tuvwxyz"), tuple("zyxwvut"))
        self.assertEqual(len(way), 22)
        self.assertEqual(way, exchanged(tuple("tuvwxyz"), tuple("zyxwvut")))

    def test_all_small(self):
        for seed in range(25):
            pairs = random_pairs(seed, 2, 4)
            for seen in layers_of(2, "-ab"):
                orders = orders_that_lead(pairs, "zz", seen)
                for one in orders:
                    for two in orders:
                        way = exchange_way(Stock(2, pairs), "zz", seen, one, two)
                        self.assertEqual(way, exchanged(one, two))
                        self.assertEqual(len(way) - 1, turned_pairs(one, two))
                        self.assertLessEqual(set(way), set(orders))
