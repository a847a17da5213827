"""Points 11 and 12: peeling."""

import unittest

from stampsheets.peels import on_top, peeled, peeling
from stampsheets.stocks import Stock
from tests.plain import layers_of, random_pairs

STOCK = Stock(3, [("x", "a--"), ("y", "ab-"), ("z", "--c"), ("w", "a--")])


class PeelsTest(unittest.TestCase):
    def test_peeled(self):
        self.assertEqual(peeled("abc", "a-c"), "-b-")
        self.assertEqual(peeled("-b-", "a--"), "-b-")
        self.assertEqual(peeled(stamp="aaa", left="---"), "---")

    def test_on_top(self):
        self.assertEqual(on_top(STOCK, "abc"), ("x", "y", "z", "w"))
        self.assertEqual(on_top(STOCK, "a.."), ("x", "w"))
        self.assertEqual(on_top(STOCK, "-b."), ("x", "y", "w"))
        self.assertEqual(on_top(STOCK, "---"), ("x", "y", "z", "w"))
        self.assertEqual(on_top(left="bbb", stock=STOCK), ())
        self.assertEqual(on_top(Stock(1, ()), "a"), ())

    def test_peeling(self):
        end = peeling(STOCK, "abc")
        self.assertEqual((end.seen, end.order, end.left), ("abc", ("x", "y", "z"), "---"))
        end = peeling(STOCK, "ab.")
        self.assertEqual((end.seen, end.order, end.left), ("ab.", ("x", "y"), "--."))
        end = peeling(seen="---", stock=STOCK)
        self.assertEqual((end.seen, end.order, end.left), ("---", (), "---"))
        end = peeling(Stock(3, ()), "a-b")
        self.assertEqual((end.order, end.left), ((), "a-b"))

    def test_peeling_begins_again_with_the_first_stamp(self):
        stock = Stock(3, [("x", "ba-"), ("y", "b-c"), ("z", "--c")])
        self.assertEqual(peeling(stock, "bac").order, ("x", "y"))
        stock = Stock(3, [("x", "aa."), ("y", "-b-"), ("z", "..c"), ("w", "--.")])
        self.assertEqual(peeling(stock, "ab.").order, ("y", "x"))
        stock = Stock(3, [("w", "c--"), ("x", "ca-"), ("y", "-bb"), ("z", "--b")])
        self.assertEqual(peeling(stock, "cbb").order, ("w", "y"))
        stock = Stock(2, [("x", "aa"), ("y", "-b")])
        self.assertEqual(peeling(stock, "ab").order, ("y", "x"))

    def test_peeling_step_by_step(self):
        for seed in range(30):
            pairs = random_pairs(seed, 3, 4)
            for seen in layers_of(3, "-ab"):
                end = peeling(Stock(3, pairs), seen)
                left = seen
                for name in end.order + (None,):
                    usable = [
                        n for n, stamp in pairs
                        if all(a == b or "-" in (a, b) for a, b in zip(left, stamp))
                        and any(a != "-" and b != "-" for a, b in zip(left, stamp))
                    ]
                    self.assertEqual(usable[:1], [name] if name else [])
                    if name:
                        stamp = dict(pairs)[name]
                        left = "".join(a if b == "-" else "-" for a, b in zip(left, stamp))
                self.assertEqual(end.left, left)
                self.assertEqual(end.seen, seen)
                self.assertIsInstance(end.order, tuple)
