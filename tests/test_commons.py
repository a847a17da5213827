"""Point 35: what all rows have in common."""

import unittest

from stampsheets.claims import Claim
from stampsheets.commons import possible_uses, sure_pairs, sure_uses
from stampsheets.stocks import Stock
from stampsheets.verdicts import verdict
from tests.plain import atom_true, layers_of, leading_rows, random_pairs

STOCK = Stock(2, [("x", "a-"), ("y", "-b"), ("z", "aa"), ("w", "c-")])


class CommonsTest(unittest.TestCase):
    def test_ordinary(self):
        self.assertEqual(sure_uses(STOCK, "..", "ab"), ("y",))
        self.assertEqual(possible_uses(STOCK, "..", "ab"), ("x", "y", "z", "w"))
        self.assertEqual(sure_pairs(STOCK, "..", "ab"), (("y", "z"),))
        self.assertEqual(sure_uses(STOCK, "..", "cb"), ("y", "w"))
        self.assertEqual(sure_pairs(seen="cb", start="..", stock=STOCK), (("y", "z"), ("w", "x"), ("w", "z")))

    def test_edges(self):
        for function in (sure_uses, possible_uses, sure_pairs):
            self.assertIsNone(function(STOCK, "..", "qq"))
            self.assertEqual(function(Stock(1, ()), "-", "a"), ())
        self.assertEqual(sure_uses(seen="ab", start="ab", stock=STOCK), ())
        self.assertEqual(possible_uses(seen="q-", start="q-", stock=STOCK), ("y",))
        self.assertEqual(sure_pairs(STOCK, "--", "ab"), ())

    def test_over_what_cannot_be_used(self):
        stock = Stock(2, [("u", "q-"), ("x", "ab")])
        self.assertEqual(possible_uses(stock, ".p", "qp"), ("u",))
        self.assertEqual(sure_pairs(stock, ".p", "qp"), (("u", "x"),))

    def test_equal_stamps(self):
        stock = Stock(1, [("x", "a"), ("y", "a")])
        self.assertEqual(sure_uses(stock, ".", "a"), ())
        self.assertEqual(possible_uses(stock, ".", "a"), ("x", "y"))

    def test_against_all_rows(self):
        for seed in range(10):
            pairs = random_pairs(seed, 2, 3)
            stock = Stock(2, pairs)
            for start in ["zz", "-a", "ab", "--"]:
                for seen in layers_of(2, "-ab"):
                    self.check(pairs, stock, start, seen, leading_rows(pairs, start, seen, 5))

    def check(self, pairs, stock, start, seen, rows):
        if not rows:
            for function in (sure_uses, possible_uses, sure_pairs):
                self.assertIsNone(function(stock, start, seen))
            return
        sure = tuple(name for name in "xyz" if all(name in row for row in rows))
        self.assertEqual(sure_uses(stock, start, seen), sure)
        self.assertEqual(possible_uses(stock, start, seen), tuple(n for n in "xyz" if any(n in row for row in rows)))
        couples = [(a, b) for a in "xyz" for b in "xyz" if a != b]
        wanted = tuple(pair for pair in couples if all(atom_true(pairs, ("over",) + pair, row) for row in rows))
        self.assertEqual(sure_pairs(stock, start, seen), wanted)
        judged = tuple(p for p in couples if verdict(start, seen, Claim.of(stock, ("over",) + p)).word == "sure")
        self.assertEqual(wanted, judged)
