"""Point 42: which stamps a stock makes."""

import unittest

from stampsheets.inners import inner_stock, is_stamp_refusal, stamp_making
from stampsheets.rows import net_stamp
from stampsheets.stocks import Stock
from tests.plain import all_subsets, layers_of, plain_nets, random_pairs

STOCK = Stock(3, [("x", "aa-"), ("y", "-b-"), ("z", "-bb"), ("w", "aa-")])


class InnersTest(unittest.TestCase):
    def test_inner_stock(self):
        self.assertEqual(inner_stock(STOCK, "ab-").stamps, (("x", "aa-"), ("y", "-b-"), ("w", "aa-")))
        self.assertEqual(inner_stock(STOCK, "-q-").names, ("y",))
        self.assertEqual(inner_stock(STOCK, "q-q").stamps, ())
        self.assertEqual(inner_stock(stamp="qqq", stock=STOCK), STOCK)
        self.assertEqual(inner_stock(Stock(1, ()), "a"), Stock(1, ()))

    def test_made(self):
        found = stamp_making(STOCK, "ab-")
        self.assertIs(found.made, True)
        self.assertEqual((found.row, found.cells), (("x", "y"), ()))
        self.assertEqual(net_stamp(STOCK, found.row), "ab-")
        found = stamp_making(stamp="-bb", stock=STOCK)
        self.assertEqual((found.made, found.row, found.cells), (True, ("z", "y"), ()))

    def test_not_made(self):
        found = stamp_making(STOCK, "cb-")
        self.assertIs(found.made, False)
        self.assertEqual((found.row, found.cells), (None, (0,)))
        # z lies on top of the stamp, but it covers more than the stamp does.
        found = stamp_making(STOCK, "--b")
        self.assertEqual((found.made, found.row, found.cells), (False, None, (2,)))
        found = stamp_making(Stock(2, ()), "a-")
        self.assertEqual((found.made, found.row, found.cells), (False, None, (0,)))

    def test_refusals(self):
        self.assertIs(is_stamp_refusal(STOCK, "cb-", (0,)), True)
        self.assertIs(is_stamp_refusal(STOCK, "cb-", [0, 0]), True)
        self.assertIs(is_stamp_refusal(STOCK, "cb-", [1, 0]), False)
        self.assertIs(is_stamp_refusal(STOCK, "cb-", (2,)), False)
        self.assertIs(is_stamp_refusal(STOCK, "cb-", ()), False)
        self.assertIs(is_stamp_refusal(STOCK, "ab-", ()), False)
        self.assertIs(is_stamp_refusal(STOCK, "cc-", [1]), True)
        self.assertIs(is_stamp_refusal(STOCK, "cc-", [1, 0]), True)
        # Only the stamps of the inner stock count: z covers cell 1, too, and has its mark.
        self.assertIs(is_stamp_refusal(STOCK, "-bb", (1,)), False)
        self.assertIs(is_stamp_refusal(STOCK, "q-b", (2,)), True)
        self.assertIs(is_stamp_refusal(chosen=[0], stamp="a--", stock=Stock(3, ())), True)

    def test_all_small(self):
        for seed in range(60):
            pairs = random_pairs(seed, 3, 4)
            stock = Stock(3, pairs)
            nets = plain_nets(pairs, 3)
            for stamp in layers_of(3, "-ab."):
                if stamp != "---":
                    self.check(stock, stamp, stamp in nets)

    def check(self, stock, stamp, made):
        found = stamp_making(stock, stamp)
        self.assertIs(found.made, made)
        refusals = [cells for cells in all_subsets(range(3)) if is_stamp_refusal(stock, stamp, cells)]
        if made:
            self.assertEqual(net_stamp(stock, found.row), stamp)
            self.assertEqual((found.cells, refusals), ((), []))
        else:
            self.assertIsNone(found.row)
            self.assertEqual(found.cells, tuple(sorted(set().union(*refusals))))
            self.assertIn(found.cells, refusals)
