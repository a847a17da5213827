"""Point 69: how likely a claim is."""

import unittest
from fractions import Fraction
from random import Random

from stampsheets.chances import chance_sum
from stampsheets.claimchances import claim_chances, claim_share
from stampsheets.claims import Claim
from stampsheets.errors import BadChances
from stampsheets.stocks import Stock
from tests.chancecases import BAD_CHANCES, pair_of, random_chances, rows_of
from tests.claimcases import random_claim
from tests.plain import leads, random_layer, random_pairs, tree_true

STOCK = Stock(2, [("x", "a-"), ("y", "-b"), ("z", "cc"), ("w", "a-")])
CHANCES = ((1, 2), (1, 3), (1, 6), (0, 1))


def of(*atom):
    return Claim.of(STOCK, atom)


class ClaimChancesTest(unittest.TestCase):
    def test_ordinary(self):
        claim = of("over", "y", "x")
        self.assertEqual(claim_chances(CHANCES, "..", "ab", claim, 2), ((1, 6), (1, 3)))
        self.assertEqual(claim_share(CHANCES, "..", "ab", claim, 2), (1, 2))
        self.assertEqual(claim_chances(n=1, claim=claim, seen="ab", start="..", chances=CHANCES), ((0, 1), (0, 1)))
        self.assertIsNone(claim_share(n=1, claim=claim, seen="ab", start="..", chances=CHANCES))
        self.assertEqual(claim_chances(CHANCES, "..", "-b", of("used", "x", 1), 1), ((0, 1), (1, 3)))
        self.assertEqual(claim_share(CHANCES, "..", "-b", of("used", "x", 1), 1), (0, 1))

    def test_no_press(self):
        self.assertEqual(claim_chances(CHANCES, "..", ".-", ~of("ends", "x"), 0), ((1, 1), (1, 1)))
        self.assertEqual(claim_chances(CHANCES, "..", ".-", of("ends", "x"), 0), ((0, 1), (1, 1)))
        self.assertEqual(claim_chances(CHANCES, "..", "a-", of("ends", "x"), 0), ((0, 1), (0, 1)))
        self.assertEqual(claim_share(CHANCES, "..", ".-", ~of("ends", "x"), 0), (1, 1))

    def test_stamps_that_are_never_drawn(self):
        self.assertEqual(claim_chances(CHANCES, "..", "ab", of("used", "w", 1), 5)[0], (0, 1))
        self.assertEqual(claim_share(CHANCES, "..", "ab", of("used", "w", 1), 5), (0, 1))
        sure = [[0, 1], [0, 1], [0, 1], [1, 1]]
        self.assertEqual(claim_chances(sure, "..", "a-", of("used", "w", 3), 3), ((1, 1), (1, 1)))
        self.assertEqual(claim_chances(sure, "..", "a-", of("used", "w", 3), 2), ((0, 1), (1, 1)))
        self.assertIsNone(claim_share(sure, "..", "ab", of("used", "w", 3), 3))

    def test_claims_that_hold_for_no_row(self):
        claim = of("begins", "x") & of("begins", "y")
        self.assertEqual(claim_share(CHANCES, "..", "ab", claim, 30), (0, 1))
        self.assertEqual(claim_share(CHANCES, "..", "ab", ~claim, 30), (1, 1))
        self.assertIsNone(claim_share(CHANCES, "..", "qq", ~claim, 30))

    def test_bad_chances(self):
        for chances in BAD_CHANCES:
            for call in (claim_chances, claim_share):
                with self.assertRaises(BadChances):
                    call(chances, "..", "qq", of("used", "x", 1), 0)

    def test_against_all_rows(self):
        for seed in range(80):
            pairs, chances = random_pairs(seed % 20, 2, 3), random_chances(seed, 3)
            claim = random_claim(seed, Stock(2, pairs), 1 + seed % 3)
            start, seen = Random(seed).choice(["zz", "-a", "--"]), random_layer(Random(seed), 2, "-ab")
            for n in range(5):
                rows = [(row, c) for row, c in rows_of("xyz", chances, n) if leads(pairs, start, seen, row)]
                led = Fraction(sum(c for row, c in rows))
                held = Fraction(sum(c for row, c in rows if tree_true(pairs, claim.tree, row)))
                self.assertEqual(claim_chances(chances, start, seen, claim, n), (pair_of(held), pair_of(led)))
                share = pair_of(held / led) if led > 0 else None
                self.assertEqual(claim_share(chances, start, seen, claim, n), share)

    def test_against_the_power_sum(self):
        for seed in range(30):
            stock = Stock(3, random_pairs(seed, 3, 4))
            chances = random_chances(seed, 4)
            claim = random_claim(seed, stock, 2)
            for start, seen in [("zzz", "ab-"), ("zzz", "-a."), ("---", "aab")]:
                total = chance_sum(stock, chances, start, seen)
                for n in (0, 8, 30):
                    held, led = claim_chances(chances, start, seen, claim, n)
                    self.assertEqual(led, total(n))
                    broken, _ = claim_chances(chances, start, seen, ~claim, n)
                    self.assertEqual(Fraction(*held) + Fraction(*broken), Fraction(*led))
