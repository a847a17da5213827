"""Points 8 and 9: names and stocks."""

import unittest

from stampsheets.errors import BadName, BadStamp, NameTaken, SizesDiffer, UnknownName
from stampsheets.stocks import Stock, is_name

PAIRS = (("x", "a-"), ("y", "-b"), ("z", "a-"))


class NamesTest(unittest.TestCase):
    def test_is_name(self):
        for value in ["a", "z9", "a1234567", "abcdefgh"]:
            self.assertIs(is_name(value), True, value)
        for value in ["", "9a", "abcdefghi", "A", "a b", "a_", "a-", "a\n", None, 1, True, ["a"], ("a",), b"a", {}]:
            self.assertIs(is_name(value), False, value)
        self.assertIs(is_name(value="a"), True)


class StockTest(unittest.TestCase):
    def setUp(self):
        self.stock = Stock(2, PAIRS)

    def test_fields(self):
        self.assertEqual(self.stock.size, 2)
        self.assertEqual(self.stock.stamps, PAIRS)
        self.assertEqual(self.stock.names, ("x", "y", "z"))
        self.assertEqual(Stock(stamps=(), size=3).stamps, ())
        self.assertEqual(Stock(3, ()).names, ())

    def test_greatest(self):
        pairs = [(f"n{k}", "a" * 30) for k in range(24)]
        stock = Stock(30, pairs)
        self.assertEqual(len(stock), 24)
        self.assertEqual(stock.stamps, tuple(pairs))

    def test_lists_and_later_changes(self):
        pairs = [["x", "a-"], ["y", "-b"]]
        stock = Stock(2, pairs)
        self.assertEqual(stock.stamps, (("x", "a-"), ("y", "-b")))
        self.assertIsInstance(stock.stamps, tuple)
        self.assertIsInstance(stock.stamps[0], tuple)
        pairs[0][0] = "q"
        pairs.append(["z", "a-"])
        self.assertEqual(stock.stamps, (("x", "a-"), ("y", "-b")))
        self.assertEqual(stock.stamp("x"), "a-")
        self.assertIs("z" in stock, False)

    def test_errors_in_order(self):
        with self.assertRaises(BadName) as caught:
            Stock(2, [("x", "a-"), ("9", "----")])
        self.assertEqual(caught.exception.index, 1)
        for stamp in ["--", "a", "abc", "", "A-", "a b"]:
            with self.assertRaises(BadStamp) as caught:
                Stock(2, [("x", "a-"), ("x", stamp)])
            self.assertEqual(caught.exception.index, 1)
        with self.assertRaises(NameTaken) as caught:
            Stock(2, [("x", "a-"), ("y", "a-"), ("x", "-b"), ("9", "-b")])
        self.assertEqual(caught.exception.name, "x")
        with self.assertRaises(BadStamp) as caught:
            Stock(2, [("x", "--"), ("9", "a-")])
        self.assertEqual(caught.exception.index, 0)

    def test_operators(self):
        stock = self.stock
        self.assertEqual(len(stock), 3)
        self.assertEqual(len(Stock(1, [])), 0)
        self.assertIs("x" in stock, True)
        for name in ["q", "", "no name", "xx"]:
            self.assertIs(name in stock, False)
        self.assertEqual(tuple(stock), PAIRS)
        self.assertIs(stock == Stock(2, list(PAIRS)), True)
        self.assertIs(stock == Stock(2, PAIRS[::-1]), False)
        self.assertIs(stock == Stock(2, PAIRS[:2]), False)
        self.assertIs(Stock(2, ()) == Stock(3, ()), False)
        for other in [PAIRS, None, 2, "x"]:
            self.assertIs(stock == other, False)
            self.assertIs(stock != other, True)

    def test_union(self):
        two = Stock(2, [("w", "c-"), ("y", "-b"), ("x", "a-"), ("v", "a-")])
        union = self.stock | two
        self.assertEqual(union.stamps, PAIRS + (("w", "c-"), ("v", "a-")))
        self.assertEqual(self.stock | Stock(2, ()), self.stock)
        self.assertEqual(self.stock.stamps, PAIRS)
        self.assertIs("w" in union, True)

    def test_union_errors(self):
        with self.assertRaises(SizesDiffer) as caught:
            Stock(2, [("x", "aa")]) | Stock(3, [("x", "aaa")])
        self.assertEqual((caught.exception.one, caught.exception.two), (2, 3))
        with self.assertRaises(NameTaken) as caught:
            self.stock | Stock(2, [("q", "aa"), ("z", "aa"), ("x", "aa")])
        self.assertEqual(caught.exception.name, "z")

    def test_stamp(self):
        self.assertEqual(self.stock.stamp("y"), "-b")
        self.assertEqual(self.stock.stamp(name="z"), "a-")
        with self.assertRaises(UnknownName) as caught:
            self.stock.stamp("no name")
        self.assertEqual(caught.exception.name, "no name")

    def test_only_and_without(self):
        self.assertEqual(self.stock.only(["z", "x", "z"]).stamps, (PAIRS[0], PAIRS[2]))
        self.assertEqual(self.stock.only(names=()).stamps, ())
        self.assertEqual(self.stock.only(()).size, 2)
        self.assertEqual(self.stock.without(["x", "x"]).stamps, PAIRS[1:])
        self.assertEqual(self.stock.without(names=()), self.stock)
        for method in [self.stock.only, self.stock.without]:
            with self.assertRaises(UnknownName) as caught:
                method(("x", "", "q"))
            self.assertEqual(caught.exception.name, "")

    def test_renamed(self):
        self.assertEqual(self.stock.renamed("y", "w").stamps, (("x", "a-"), ("w", "-b"), ("z", "a-")))
        self.assertEqual(self.stock.renamed(old="y", new="y"), self.stock)
        with self.assertRaises(NameTaken) as caught:
            self.stock.renamed("x", "z")
        self.assertEqual(caught.exception.name, "z")
        with self.assertRaises(UnknownName) as caught:
            self.stock.renamed("q", "x")
        self.assertEqual(caught.exception.name, "q")
        self.assertEqual(self.stock.stamps, PAIRS)
