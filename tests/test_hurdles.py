"""Point 53: breakers and hurdles."""

import unittest

from stampsheets.boxes import Box
from stampsheets.choices import least_choices
from stampsheets.fastness import fast_cells
from stampsheets.hurdles import breakers, least_hurdles
from stampsheets.stocks import Stock
from tests.boxcases import box_of, random_box
from tests.plain import all_subsets, explaining, in_order, leading_rows, random_pairs

STOCK = Stock(3, [("x", "aa-"), ("y", "-b-"), ("z", "-bc"), ("w", "--d"), ("v", "a--")])


class BreakersTest(unittest.TestCase):
    def test_ordinary(self):
        self.assertEqual(breakers(STOCK, "abd", (1,)), ("y", "z"))
        self.assertEqual(breakers(STOCK, "abd", (2, 1)), ("y", "w"))
        self.assertEqual(breakers(STOCK, "abd", [0, 1, 0]), ("y", "z", "v"))
        self.assertEqual(breakers(STOCK, "abd", (0,)), ("x", "v"))
        self.assertEqual(breakers(chosen=[2, 2], seen="--c", stock=STOCK), ("z",))
        self.assertEqual(breakers(STOCK, "--q", [2]), ())

    def test_edges(self):
        self.assertEqual(breakers(STOCK, "abd", ()), ())
        self.assertEqual(breakers(Stock(1, ()), "a", [0]), ())

    def test_every_leading_row_presses_one(self):
        for seed in range(20):
            pairs = random_pairs(seed, 3, 3, "--ab")
            for seen in ["ab-", "aba", "bb."]:
                rows = leading_rows(pairs, "zzz", seen, 3)
                for chosen in all_subsets([cell for cell in range(3) if seen[cell] != "-"]):
                    names = breakers(Stock(3, pairs), seen, chosen)
                    wanted = [
                        name for name, stamp in pairs
                        if any(stamp[c] != "-" for c in chosen) and all(stamp[c] in ("-", seen[c]) for c in chosen)
                    ]
                    self.assertEqual(names, tuple(wanted))
                    if chosen:
                        self.assertTrue(all(set(names) & set(row) for row in rows))
                    left = Stock(3, pairs).without(names)
                    self.assertLessEqual(set(chosen), set(fast_cells(left, seen)))


class HurdlesTest(unittest.TestCase):
    def test_ordinary(self):
        stock = Stock(2, [("x", "a-"), ("y", "-b"), ("z", "cb"), ("w", "a-")])
        self.assertEqual(least_hurdles(Box(stock, [("..", "ab")])), (("x", "w"), ("y", "z")))
        self.assertEqual(least_hurdles(box=Box(stock, [("..", "ab"), ("..", ".b")])), (("y",), ("x", "w")))

    def test_no_set_and_the_empty_set(self):
        self.assertEqual(least_hurdles(Box(STOCK, [("...", "qqq")])), ((),))
        self.assertEqual(least_hurdles(Box(STOCK, [("...", "--.")])), ())
        self.assertEqual(least_hurdles(Box(STOCK, ())), ())
        self.assertEqual(least_hurdles(Box(Stock(1, ()), [("a", "b")])), ((),))
        self.assertEqual(least_hurdles(Box(Stock(1, ()), [("a", "a")])), ())

    def test_seven_stamps(self):
        stock = Stock(1, [(name, "a") for name in "gfedcba"])
        self.assertEqual(least_hurdles(Box(stock, [(".", "a")])), (tuple("gfedcba"),))

    def test_against_all_sets(self):
        for seed in range(150):
            pairs, couples = random_box(seed)
            box = box_of(pairs, couples)
            sets = [set(one) for one in explaining(pairs, couples)]
            meeting = [set(one) for one in all_subsets("xyzu") if all(set(one) & other for other in sets)]
            least = [one for one in meeting if not any(two < one for two in meeting)]
            self.assertEqual(least_hurdles(box), tuple(in_order("xyzu", least)))
            if sets:
                self.check_choices(box, [set(one) for one in least_hurdles(box)])

    def check_choices(self, box, hurdles):
        meeting = [set(one) for one in all_subsets("xyzu") if all(set(one) & other for other in hurdles)]
        least = [one for one in meeting if not any(two < one for two in meeting)]
        self.assertEqual(least_choices(box), tuple(in_order("xyzu", least)))
