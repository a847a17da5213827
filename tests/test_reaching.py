"""Point 19: the first sheet that cannot be made from every sheet."""

import unittest

from stampsheets.fastness import fast_cells
from stampsheets.reaching import first_stuck
from stampsheets.stocks import Stock
from tests.plain import MARKS, layers_of, random_pairs, reachable


class ReachingTest(unittest.TestCase):
    def test_ordinary(self):
        stock = Stock(2, [("x", "a-"), ("y", "-a"), ("z", ".-"), ("w", "-.")])
        self.assertIsNone(first_stuck(stock, ".a"))
        self.assertIsNone(first_stuck(stock, "a."))
        self.assertEqual(first_stuck(stock, "ba"), "ab")
        self.assertEqual(first_stuck(stock, "ba."), ".b")
        self.assertEqual(first_stuck(marks="b", stock=stock), "bb")

    def test_edges(self):
        self.assertEqual(first_stuck(Stock(1, ()), "zya."), ".")
        self.assertEqual(first_stuck(Stock(30, ()), "q"), "q" * 30)
        self.assertIsNone(first_stuck(Stock(30, [("x", "q" * 30)]), "q"))
        self.assertEqual(first_stuck(Stock(8, [("x", "." * 8)]), "a."), "." * 7 + "a")

    def test_all_small(self):
        for seed in range(60):
            pairs = random_pairs(seed, 2, 5, "--aabb")
            stock = Stock(2, pairs)
            sheets = sorted(layers_of(2, "ab"), key=lambda sheet: [MARKS.index(mark) for mark in sheet])
            stuck = [sheet for sheet in sheets if fast_cells(stock, sheet)]
            found = first_stuck(stock, "ba")
            self.assertEqual(found, stuck[0] if stuck else None)
            everywhere = all(sheet in reachable(pairs, [start]) for sheet in sheets for start in layers_of(2, "abz"))
            self.assertIs(found is None, everywhere)
