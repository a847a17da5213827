"""Points 32 and 33: verdicts and the tables that show them."""

import unittest

from stampsheets.claims import Claim
from stampsheets.errors import StocksDiffer
from stampsheets.standings import reached_standings
from stampsheets.stocks import Stock
from stampsheets.verdicts import is_verdict_table, verdict
from tests.claimcases import random_claim
from tests.plain import leading_rows, random_pairs, tree_true

STOCK = Stock(2, [("x", "a-"), ("y", "-b"), ("z", "aa")])
OTHER = STOCK.renamed("z", "w")


def atom(*items):
    return Claim.of(STOCK, items)


class VerdictTest(unittest.TestCase):
    def test_words(self):
        found = verdict("..", "ab", atom("ends", "y"))
        self.assertEqual((found.word, found.keeping, found.breaking, found.table), ("open", ("x", "y"), ("y", "x"), ()))
        found = verdict("..", "ab", atom("used", "y", 1))
        self.assertEqual((found.word, found.keeping, found.breaking), ("sure", ("x", "y"), None))
        self.assertEqual(found.table, reached_standings("ab", atom("used", "y", 1)))
        found = verdict("..", "ab", atom("ends", "z"))
        self.assertEqual((found.word, found.keeping, found.breaking), ("never", None, ("x", "y")))
        self.assertEqual(found.table, reached_standings("ab", atom("ends", "z")))
        found = verdict("..", "qq", atom("ends", "z"))
        self.assertEqual((found.word, found.keeping, found.breaking), ("none", None, None))
        self.assertEqual(found.table, (("qq", (0,)),))

    def test_supposed(self):
        found = verdict("..", "ab", atom("ends", "y"), supposed=atom("begins", "x"))
        self.assertEqual((found.word, found.keeping, found.breaking), ("open", ("x", "y"), ("x", "y", "x")))
        self.assertEqual(found.table, ())
        found = verdict("..", "ab", atom("ends", "x"), supposed=~atom("ends", "y"))
        self.assertEqual((found.word, found.keeping, found.breaking), ("sure", ("y", "x"), None))
        self.assertEqual(found.table, reached_standings("ab", ~atom("ends", "y") & atom("ends", "x")))
        found = verdict(claim=atom("ends", "x"), seen="ab", start="..", supposed=atom("ends", "z"))
        self.assertEqual((found.word, found.keeping, found.breaking), ("none", None, None))
        self.assertEqual(found.table, reached_standings("ab", atom("ends", "z") & atom("ends", "x")))
        found = verdict("..", "ab", atom("ends", "x"), supposed=None)
        self.assertEqual(found.word, "open")

    def test_empty_row_and_stock(self):
        found = verdict("ab", "ab", atom("used", "x", 1))
        self.assertEqual((found.word, found.keeping, found.breaking), ("open", ("x",), ()))
        empty = Stock(1, ())
        found = verdict("-", "a", Claim.of(empty, ("top", 0, None)))
        self.assertEqual((found.word, found.keeping, found.breaking, found.table), ("sure", (), None, (("a", (0,)),)))

    def test_equal_stamps_under_two_names(self):
        stock = Stock(1, [("y", "a"), ("x", "a")])
        found = verdict(".", "a", Claim.of(stock, ("ends", "x")))
        self.assertEqual((found.word, found.keeping, found.breaking), ("open", ("x",), ("y",)))

    def test_stocks_differ(self):
        other = Claim.of(OTHER, ("ends", "x"))
        with self.assertRaises(StocksDiffer):
            verdict("..", "qq", atom("ends", "x"), supposed=other)
        with self.assertRaises(StocksDiffer):
            is_verdict_table("..", "qq", atom("ends", "x"), "no word", (), supposed=other)

    def test_against_all_rows(self):
        words = []
        for seed in range(150):
            pairs = random_pairs(seed, 2, 3)
            stock = Stock(2, pairs)
            claim = random_claim(seed, stock, seed % 3 + 1)
            supposed = random_claim(seed + 500, stock, 1) if seed % 2 else None
            for start, seen in [("zz", "ab"), ("-a", "-a"), ("..", "--")]:
                found = verdict(start, seen, claim, supposed=supposed)
                words.append(found.word)
                self.compare(pairs, start, seen, claim, supposed, found)
        self.assertEqual(sorted(set(words)), ["never", "none", "open", "sure"])

    def compare(self, pairs, start, seen, claim, supposed, found):
        rows = leading_rows(pairs, start, seen, 5)
        if supposed is not None:
            rows = [row for row in rows if tree_true(pairs, supposed.tree, row)]
        self.first(found.keeping, [row for row in rows if tree_true(pairs, claim.tree, row)])
        self.first(found.breaking, [row for row in rows if not tree_true(pairs, claim.tree, row)])
        given = (found.keeping is not None, found.breaking is not None)
        words = {(False, False): "none", (True, False): "sure", (False, True): "never", (True, True): "open"}
        self.assertEqual(found.word, words[given])
        joint = claim if supposed is None else supposed & claim
        self.assertEqual(found.table, () if found.word == "open" else reached_standings(seen, joint))

    def first(self, row, rows):
        if row is None or len(row) > 5:
            self.assertEqual(rows, [])
        else:
            self.assertEqual(row, rows[0])


class VerdictTableTest(unittest.TestCase):
    def test_own_tables(self):
        for seed in range(100):
            stock = Stock(2, random_pairs(seed, 2, 3))
            claim = random_claim(seed, stock, seed % 2 + 1)
            supposed = random_claim(seed + 500, stock, 1) if seed % 2 else None
            joint = claim if supposed is None else supposed & claim
            for start, seen in [("zz", "ab"), ("-a", "-a"), ("..", "--")]:
                word = verdict(start, seen, claim, supposed=supposed).word
                table = [[left, list(mark)] for left, mark in reached_standings(seen, joint)]
                for each in ("none", "sure", "never"):
                    shown = each == word or word == "none"
                    self.assertIs(is_verdict_table(start, seen, claim, each, table, supposed=supposed), shown)
                    again = table[::-1] + table
                    self.assertIs(is_verdict_table(start, seen, claim, each, again, supposed=supposed), shown)
                self.assertIs(is_verdict_table(start, seen, claim, "open", table, supposed=supposed), False)

    def test_words(self):
        claim = atom("used", "y", 1)
        table = reached_standings("ab", claim)
        self.assertIs(is_verdict_table("..", "ab", claim, "sure", table), True)
        for word in ("never", "none", "open", "", "Sure", "surely"):
            self.assertIs(is_verdict_table("..", "ab", claim, word, table), False)
        self.assertIs(is_verdict_table(table=table, word="sure", claim=claim, seen="ab", start=".."), True)

    def test_what_must_be_there(self):
        claim = atom("used", "y", 1)
        table = reached_standings("ab", claim)
        for missing in table:
            self.assertIs(is_verdict_table("..", "ab", claim, "sure", [s for s in table if s != missing]), False)
        self.assertIs(is_verdict_table("..", "ab", claim, "sure", ()), False)

    def test_more_than_needed(self):
        claim = atom("used", "y", 1)
        table = reached_standings("ab", claim)
        more = (("ab", (1,)), ("-b", (1,)), ("a-", (1,)))
        self.assertIs(is_verdict_table("..", "ab", claim, "sure", table + more), True)
        self.assertIs(is_verdict_table("..", "ab", claim, "sure", table + more[:1]), False)
        self.assertIs(is_verdict_table("..", "ab", claim, "sure", table + (("qb", (1,)),)), False)
        self.assertIs(is_verdict_table("..", "ab", claim, "sure", table + (("qq", (0,)),)), True)
        self.assertIs(is_verdict_table("q-", "ab", claim, "sure", table + (("qq", (0,)),)), False)

    def test_none(self):
        claim = atom("ends", "x")
        self.assertIs(is_verdict_table("..", "qq", claim, "none", (("qq", (0,)),)), True)
        self.assertIs(is_verdict_table("..", "qq", claim, "sure", (("qq", (0,)),)), True)
        self.assertIs(is_verdict_table("..", "qq", claim, "never", (("qq", (0,)),)), True)
        self.assertIs(is_verdict_table("q.", "q-", claim, "none", (("q-", (0,)),)), False)
