"""Points 59 and 60: margins, and what a stamp is worth."""

import unittest
from random import Random

from stampsheets.claims import Claim
from stampsheets.errors import BadPrices, UnknownName
from stampsheets.margins import cost_margin, stamp_worth, sure_within
from stampsheets.marks import holds
from stampsheets.prices import cheapest
from stampsheets.stocks import Stock
from tests.claimcases import random_claim
from tests.plain import leading_rows, leads, random_pairs, rows_up_to

STOCK = Stock(2, [("x", "a-"), ("y", "-b"), ("z", "ab")])
PRICES = (2, 3, 9)


def of(*atom):
    return Claim.of(STOCK, atom)


class CostMarginTest(unittest.TestCase):
    def test_ordinary(self):
        self.assertEqual(cost_margin(PRICES, "..", "ab", of("used", "z", 1)), (9, 5))
        self.assertEqual(cost_margin(PRICES, "..", "ab", of("used", "x", 3)), (9, 5))
        self.assertEqual(cost_margin([2, 3, 4], "..", "ab", of("used", "z", 1)), (4, 5))
        self.assertEqual(cost_margin(claim=of("used", "y", 2), seen=".b", start="..", prices=PRICES), (6, 3))
        self.assertEqual(cost_margin((0, 0, 0), "..", "ab", of("used", "x", 3)), (0, 0))

    def test_none(self):
        self.assertEqual(cost_margin(PRICES, "..", ".b", of("used", "y", 1)), (3, None))
        self.assertEqual(cost_margin(PRICES, "..", ".b", of("used", "x", 1)), (None, 3))
        self.assertEqual(cost_margin(PRICES, "..", "qq", of("used", "x", 1)), (None, None))

    def test_sure_within(self):
        claim = ~of("used", "z", 1)
        for excess, wanted in [(0, True), (3, True), (4, False), (10 ** 30, False)]:
            self.assertIs(sure_within(PRICES, "..", "ab", claim, excess), wanted)
        for excess in (0, 4, 10 ** 30):
            self.assertIs(sure_within(PRICES, "..", "ab", ~claim, excess), False)
            self.assertIs(sure_within(PRICES, "..", ".b", of("used", "y", 1), excess), True)
            self.assertIs(sure_within(PRICES, "..", ".b", of("used", "x", 1), excess), False)
            self.assertIs(sure_within(PRICES, "..", "qq", of("used", "x", 1), excess), True)
        self.assertIs(sure_within([2, 3, 5], "..", "ab", claim, 0), False)
        self.assertIs(sure_within([2, 3, 5], "..", "ab", ~claim, 0), False)
        self.assertIs(sure_within(excess=0, claim=claim, seen="ab", start="..", prices=[2, 3, 6]), True)

    def test_bad_prices(self):
        for prices in [(), (1, 2), [1] * 4]:
            with self.assertRaises(BadPrices):
                cost_margin(prices, "..", "qq", of("used", "x", 1))
            with self.assertRaises(BadPrices):
                sure_within(prices, "..", "qq", of("used", "x", 1), 0)
            with self.assertRaises(BadPrices):
                stamp_worth(STOCK, prices, "..", "qq", "no name")

    def test_against_all_rows(self):
        # No row that costs at most 6 has more than 6 presses, so these are all of them.
        pairs = random_pairs(3, 2, 3, "-ab")
        rows = rows_up_to("xyz", 6)
        compared = 0
        for seed in range(60):
            random = Random(seed)
            pairs = random_pairs(seed % 12, 2, 3, "-ab")
            prices = [random.choice([1, 2, 3]) for _ in pairs]
            claim = random_claim(seed, Stock(2, pairs), 1 + seed % 2)
            start, seen = random.choice(["zz", "-a", "az"]), random.choice(["ab", "a-", "bb", "-b"])
            cheap = [row for row in rows if sum(prices["xyz".index(name)] for name in row) <= 6]
            cheap = [row for row in cheap if leads(pairs, start, seen, row)]
            found = cost_margin(prices, start, seen, claim)
            for cost, wanted in zip(found, (True, False)):
                told = [sum(prices["xyz".index(n)] for n in row) for row in cheap if holds(claim, row) is wanted]
                if told:
                    self.assertEqual(cost, min(told))
                    compared += 1
                else:
                    self.assertTrue(cost is None or cost > 6)
            for excess in (0, 1, 3):
                self.check_within(prices, start, seen, claim, excess, found)
        self.assertGreater(compared, 40)

    def check_within(self, prices, start, seen, claim, excess, found):
        held, broken = found
        least = min([cost for cost in found if cost is not None], default=0)
        wanted = broken is None or broken > least + excess
        self.assertIs(sure_within(prices, start, seen, claim, excess), wanted)


class StampWorthTest(unittest.TestCase):
    def test_ordinary(self):
        self.assertEqual(stamp_worth(STOCK, PRICES, "..", "ab", "z"), 5)
        self.assertEqual(stamp_worth(STOCK, PRICES, "..", "ab", "x"), 6)
        self.assertEqual(stamp_worth(STOCK, [2, 3, 4], "..", "ab", "x"), 1)
        self.assertEqual(stamp_worth(name="z", seen="a-", start="..", prices=PRICES, stock=STOCK), 2)
        self.assertEqual(stamp_worth(STOCK, PRICES, "ab", "ab", "z"), 0)
        self.assertEqual(stamp_worth(STOCK, (0, 0, 0), "..", "ab", "z"), 0)

    def test_no_row_without_it(self):
        self.assertIsNone(stamp_worth(STOCK, PRICES, "..", ".b", "y"))
        self.assertIsNone(stamp_worth(STOCK, PRICES, "..", "qq", "x"))

    def test_unknown_name(self):
        for name in ["q", "", "no name"]:
            for seen in ["ab", "qq"]:
                with self.assertRaises(UnknownName) as caught:
                    stamp_worth(STOCK, PRICES, "..", seen, name)
                self.assertEqual(caught.exception.name, name)
        with self.assertRaises(UnknownName):
            stamp_worth(Stock(1, ()), (), "a", "a", "x")

    def test_prices_are_not_changed(self):
        prices = [2, 3, 9]
        stamp_worth(STOCK, prices, "..", "ab", "z")
        self.assertEqual(prices, [2, 3, 9])

    def test_against_plain_costs(self):
        for seed in range(60):
            pairs = random_pairs(seed, 3, 3, "--ab")
            prices = [Random(seed + k).choice([0, 1, 2, 5]) for k in range(3)]
            for start, seen in [("zzz", "ab-"), ("a-z", "a-b"), ("zzz", "-aa")]:
                for at, name in enumerate("xyz"):
                    free = [0 if k == at else price for k, price in enumerate(prices)]
                    rows = leading_rows(pairs, start, seen, 3)
                    barred = [row for row in rows if name not in row]
                    self.check(pairs, (prices, free), (start, seen, name), (rows, barred))

    def check(self, pairs, price_lists, asked, row_lists):
        prices, free = price_lists
        start, seen, name = asked
        rows, barred = row_lists
        found = stamp_worth(Stock(3, pairs), prices, start, seen, name)
        if not barred:
            self.assertIsNone(found)
            return
        with_it = min(sum(free["xyz".index(one)] for one in row) for row in rows)
        without = min(sum(prices["xyz".index(one)] for one in row) for row in barred)
        self.assertEqual(found, without - with_it)
        self.assertEqual(with_it, cheapest(Stock(3, pairs), free, start, seen).cost)
