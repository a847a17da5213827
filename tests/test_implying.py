"""Point 36: claims that imply others, and claims that are the same."""

import unittest

from stampsheets.claims import Claim
from stampsheets.errors import StocksDiffer
from stampsheets.implying import implies, same_claims
from stampsheets.stocks import Stock
from tests.claimcases import random_claim
from tests.plain import leading_rows, random_pairs, rows_up_to, tree_true

STOCK = Stock(2, [("x", "a-"), ("y", "-b"), ("z", "aa")])


def atom(*items):
    return Claim.of(STOCK, items)


class ImplyingTest(unittest.TestCase):
    def test_implies(self):
        self.assertIs(implies("..", "ab", atom("begins", "y"), atom("used", "y", 1)), True)
        self.assertIs(implies("..", "ab", atom("begins", "y"), atom("ends", "x")), False)
        self.assertIs(implies("..", "ab", atom("ends", "z"), atom("begins", "x")), True)
        self.assertIs(implies("..", "qq", atom("begins", "y"), atom("ends", "x")), True)
        self.assertIs(implies(two=atom("top", 1, "y"), one=atom("begins", "x"), seen="ab", start=".."), True)

    def test_same_claims(self):
        one = atom("used", "x", 1)
        self.assertIsNone(same_claims(one, one))
        self.assertIsNone(same_claims(~(one & atom("ends", "y")), ~one | ~atom("ends", "y")))
        self.assertEqual(same_claims(one, ~one), ())
        self.assertEqual(same_claims(one, atom("used", "x", 2)), ("x",))
        self.assertEqual(same_claims(two=atom("begins", "x"), one=one), ("y", "x"))
        self.assertIsNone(same_claims(atom("ends", "x") | atom("top", 0, "x"), atom("top", 0, "x")))

    def test_same_claims_looks_at_rows_that_lead_nowhere(self):
        stock = Stock(1, [("x", "a"), ("y", "b")])
        self.assertEqual(same_claims(Claim.of(stock, ("ends", "y")), Claim.of(stock, ("used", "y", 1))), ("y", "x"))
        self.assertIsNone(same_claims(Claim.of(stock, ("ends", "y")), Claim.of(stock, ("top", 0, "y"))))

    def test_many_atoms(self):
        one = atom("used", "x", 1)
        for _ in range(7):
            one = one & atom("used", "x", 1)
        self.assertIsNone(same_claims(one, one | one))
        self.assertIs(implies("..", "ab", one, one), True)

    def test_stocks_differ(self):
        other = Claim.of(STOCK.renamed("z", "w"), ("ends", "x"))
        with self.assertRaises(StocksDiffer):
            implies("..", "qq", atom("ends", "x"), other)
        with self.assertRaises(StocksDiffer):
            same_claims(other, atom("ends", "x"))

    def test_against_all_rows(self):
        for seed in range(150):
            pairs = random_pairs(seed, 2, 3)
            stock = Stock(2, pairs)
            one, two = random_claim(seed, stock, seed % 2 + 1), random_claim(seed + 900, stock, 1)
            for start, seen in [("zz", "ab"), ("-a", "-a"), ("..", "--")]:
                rows = [row for row in leading_rows(pairs, start, seen, 6 if seed < 10 else 4)]
                broken = [r for r in rows if tree_true(pairs, one.tree, r) and not tree_true(pairs, two.tree, r)]
                if broken:
                    self.assertIs(implies(start, seen, one, two), False)
                elif seed < 10:
                    self.assertIs(implies(start, seen, one, two), True)
            rows = rows_up_to("xyz", 5)
            parted = [r for r in rows if tree_true(pairs, one.tree, r) != tree_true(pairs, two.tree, r)]
            found = same_claims(one, two)
            if found is None or len(found) > 5:
                self.assertEqual(parted, [])
            else:
                self.assertEqual(found, parted[0])
