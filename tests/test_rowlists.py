"""Point 34: the rows for which a claim holds."""

import unittest
from itertools import islice

from stampsheets.claims import Claim
from stampsheets.rowlists import least_row, row_count, rows_with
from stampsheets.stocks import Stock
from tests.claimcases import random_claim
from tests.plain import leading_rows, random_pairs, tree_true

STOCK = Stock(2, [("x", "a-"), ("y", "-b"), ("z", "aa")])


def atom(*items):
    return Claim.of(STOCK, items)


class RowlistsTest(unittest.TestCase):
    def test_ordinary(self):
        claim = atom("begins", "y")
        self.assertEqual(list(rows_with("..", "ab", claim, longest=2)), [("y", "x")])
        self.assertEqual(list(rows_with("..", "ab", claim, longest=3)), [
            ("y", "x"), ("y", "x", "x"), ("y", "x", "y"), ("y", "y", "x"), ("y", "z", "y")])
        self.assertEqual([row_count("..", "ab", claim, k) for k in range(4)], [0, 0, 1, 4])
        self.assertEqual(least_row("..", "ab", claim), ("y", "x"))

    def test_edges(self):
        claim = ~atom("used", "z", 1)
        self.assertEqual(list(rows_with("ab", "ab", claim, longest=-1)), [])
        self.assertEqual(list(rows_with("ab", "ab", claim, longest=0)), [()])
        self.assertEqual(list(rows_with("..", "ab", claim, longest=0)), [])
        self.assertEqual(row_count("ab", "ab", claim, 0), 1)
        self.assertEqual(row_count("..", "ab", claim, 0), 0)
        self.assertEqual(least_row("ab", "ab", claim), ())
        self.assertEqual(row_count(length=40, claim=claim, seen="ab", start=".."), 2 ** 40 - 2)
        self.assertEqual(list(rows_with(claim=claim, seen="-b", start="-b", longest=1)), [(), ("x",), ("y",)])
        self.assertEqual(least_row(claim=claim, seen="ab", start=".."), ("x", "y"))

    def test_no_row_leads(self):
        claim = ~atom("used", "z", 1)
        self.assertEqual(list(rows_with("..", "qq", claim, longest=12)), [])
        self.assertEqual(row_count("..", "qq", claim, 40), 0)
        self.assertIsNone(least_row("..", "qq", claim))
        self.assertIsNone(least_row("..", "ab", atom("ends", "z")))
        empty = Stock(1, ())
        self.assertEqual(list(rows_with("-", "a", Claim.of(empty, ("top", 0, None)), longest=12)), [()])
        self.assertEqual(row_count("-", "a", Claim.of(empty, ("top", 0, None)), 3), 0)

    def test_a_row_that_is_long(self):
        claim = atom("rest", "x", 4, 3) & atom("rest", "y", 4, 3) & atom("used", "z", 3)
        row = least_row("..", "ab", claim)
        self.assertEqual(len(row), 9)
        self.assertEqual(row, next(rows_with("..", "ab", claim, longest=12)))
        self.assertEqual(row_count("..", "ab", claim, 8), 0)

    def test_the_first_ones_of_very_many(self):
        names = [f"n{k}" for k in range(24)]
        stock = Stock(1, [(name, "a") for name in names])
        claim = Claim.of(stock, ("ends", "n3"))
        rows = rows_with(".", "a", claim, longest=12)
        self.assertEqual(list(islice(rows, 3)), [("n3",), ("n0", "n3"), ("n1", "n3")])
        rows = rows_with(".", "a", Claim.of(stock, ("rest", "n3", 4, 3)) & ~Claim.of(stock, ("next", "n3", "n3")),
                         longest=12)
        self.assertEqual(next(rows), ("n3", "n0", "n3", "n0", "n3"))
        self.assertEqual(row_count(".", "a", claim, 40), 24 ** 39)

    def test_begins_with_the_first_item(self):
        self.assertIsNotNone(rows_with("..", "ab", None, longest=3))

    def test_against_all_rows(self):
        for seed in range(120):
            pairs = random_pairs(seed, 2, 3)
            claim = random_claim(seed, Stock(2, pairs), seed % 3 + 1)
            for start, seen in [("zz", "ab"), ("-a", "-a"), ("..", "--")]:
                rows = [row for row in leading_rows(pairs, start, seen, 4) if tree_true(pairs, claim.tree, row)]
                self.assertEqual(list(rows_with(start, seen, claim, longest=4)), rows)
                for length in range(5):
                    many = len([row for row in rows if len(row) == length])
                    self.assertEqual(row_count(start, seen, claim, length), many)
                least = least_row(start, seen, claim)
                if least is None or len(least) > 4:
                    self.assertEqual(rows, [])
                else:
                    self.assertEqual(least, rows[0])
