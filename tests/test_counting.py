"""Point 63: the number of rows for every n."""

import unittest
from random import Random

from stampsheets.claims import Claim
from stampsheets.counting import row_sum
from stampsheets.rowlists import row_count
from stampsheets.shortest import distance, shortest_count
from stampsheets.stocks import Stock
from tests.plain import layers_of, leading_rows, random_layer, random_pairs

STOCK = Stock(2, [("x", "a-"), ("y", "-b"), ("z", "ab")])


class RowSumTest(unittest.TestCase):
    def test_ordinary(self):
        # All 3 ** n rows but those that press x alone, y alone, or nothing.
        self.assertEqual(row_sum(STOCK, "..", "ab").terms, (
            ((0, 1), (1, 1)), ((1, 1), (-2, 1)), ((3, 1), (1, 1))))
        self.assertEqual(row_sum(seen="ab", start="..", stock=STOCK)(4), (79, 1))
        self.assertEqual(row_sum(STOCK, "--", "ab").terms, (((3, 1), (1, 1)),))
        self.assertEqual(row_sum(STOCK, "..", ".b").terms, (((0, 1), (-1, 1)), ((1, 1), (1, 1))))

    def test_edges(self):
        self.assertEqual(row_sum(STOCK, "..", "qq").terms, ())
        self.assertEqual(row_sum(STOCK, "..", "--").terms, (((3, 1), (1, 1)),))
        self.assertEqual(row_sum(STOCK, "qq", "qq").terms, (((0, 1), (1, 1)),))
        self.assertEqual(row_sum(Stock(1, ()), "a", "-").terms, (((0, 1), (1, 1)),))
        self.assertEqual(row_sum(Stock(1, ()), "a", "b").terms, ())

    def test_large_n(self):
        self.assertEqual(row_sum(STOCK, "..", "ab")(200), (3 ** 200 - 2, 1))
        stock = Stock(8, [(f"n{k}", "-" * k + "a" + "-" * (7 - k)) for k in range(8)])
        total = row_sum(stock, "." * 8, "a" * 8)
        self.assertEqual(total(8), (40320, 1))
        self.assertEqual(total(7), (0, 1))
        self.assertEqual([base for base, coefficient in total], [(k, 1) for k in range(9)])
        self.assertEqual([coefficient[0] for base, coefficient in total], [1, -8, 28, -56, 70, -56, 28, -8, 1])

    def test_against_all_rows(self):
        for seed in range(20):
            pairs = random_pairs(seed, 2, 3)
            for start in ["zz", "-a", "az"]:
                for seen in layers_of(2, "-a."):
                    rows = leading_rows(pairs, start, seen, 4)
                    total = row_sum(Stock(2, pairs), start, seen)
                    for n in range(5):
                        self.assertEqual(total(n), (len([row for row in rows if len(row) == n]), 1))

    def test_against_the_count_of_a_claim(self):
        for seed in range(40):
            random = Random(seed)
            stock = Stock(4, random_pairs(seed, 4, 5, "---ab"))
            start, seen = random_layer(random, 4, "-zab"), random_layer(random, 4, "-ab")
            claim = Claim.of(stock, ("used", "x", 1))
            total = row_sum(stock, start, seen)
            for n in (0, 1, 2, 5, 17, 40):
                count = row_count(start, seen, claim | ~claim, n)
                self.assertEqual(total(n), (count, 1))
            least = distance(stock, start, seen)
            if least is None:
                self.assertEqual(len(total), 0)
            else:
                self.assertEqual(total(least), (shortest_count(stock, start, seen), 1))
