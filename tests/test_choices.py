"""Points 51 and 52: the sets of names that explain a box."""

import unittest
from random import Random

from stampsheets.boxes import Box
from stampsheets.choices import (
    cheapest_choice, choice_count, fewest_names, least_choices, needed_names, useful_names,
)
from stampsheets.errors import BadPrices
from stampsheets.stocks import Stock
from tests.boxcases import box_of, random_box
from tests.plain import explaining, in_order

STOCK = Stock(2, [("x", "a-"), ("y", "-b"), ("z", "cb"), ("w", "a-"), ("v", "q-")])
BOX = Box(STOCK, [("..", "ab"), ("..", ".b")])
OPEN = Box(STOCK, [("..", "ab")])
NONE = Box(STOCK, [("..", "ab"), ("..", "pp")])
ANY = Box(STOCK, [("..", "--"), ("ab", "-b")])


class ChoicesTest(unittest.TestCase):
    def test_ordinary(self):
        self.assertEqual(least_choices(OPEN), (("x", "y"), ("x", "z"), ("y", "w"), ("z", "w")))
        self.assertEqual(least_choices(box=BOX), (("x", "y"), ("y", "w")))
        self.assertEqual((needed_names(OPEN), needed_names(box=BOX)), ((), ("y",)))
        self.assertEqual((useful_names(OPEN), useful_names(box=BOX)), (("x", "y", "z", "w"), ("x", "y", "w")))
        self.assertEqual((choice_count(OPEN), choice_count(box=BOX)), (18, 12))
        self.assertEqual((fewest_names(OPEN), fewest_names(box=BOX)), (("x", "y"), ("x", "y")))

    def test_no_set_explains(self):
        self.assertEqual(least_choices(NONE), ())
        self.assertEqual(choice_count(NONE), 0)
        for function in (needed_names, useful_names, fewest_names):
            self.assertIsNone(function(NONE))
        self.assertIsNone(cheapest_choice(NONE, (0,) * 5))

    def test_the_empty_set_explains(self):
        for box in (ANY, Box(STOCK, ())):
            self.assertEqual(least_choices(box), ((),))
            self.assertEqual((needed_names(box), useful_names(box), fewest_names(box)), ((), (), ()))
            self.assertEqual(choice_count(box), 32)
            self.assertEqual(cheapest_choice(box, [0] * 5), (0, ()))

    def test_empty_stock(self):
        empty = Stock(1, ())
        self.assertEqual(least_choices(Box(empty, [("a", "a")])), ((),))
        self.assertEqual(choice_count(Box(empty, [("a", "a")])), 1)
        self.assertEqual(cheapest_choice(Box(empty, [("a", "-")]), ()), (0, ()))
        self.assertIsNone(cheapest_choice(Box(empty, [("a", "b")]), ()))
        self.assertIsNone(fewest_names(Box(empty, [("a", "b")])))

    def test_cheapest(self):
        self.assertEqual(cheapest_choice(OPEN, (5, 5, 5, 5, 0)), (10, ("x", "y")))
        self.assertEqual(cheapest_choice(OPEN, [5, 5, 3, 4, 0]), (7, ("z", "w")))
        self.assertEqual(cheapest_choice(OPEN, [5, 3, 3, 5, 9]), (8, ("x", "y")))
        self.assertEqual(cheapest_choice(prices=(999, 999, 0, 0, 0), box=OPEN), (0, ("z", "w")))
        self.assertEqual(cheapest_choice(OPEN, (0, 0, 0, 0, 0)), (0, ("x", "y")))
        # A larger set may cost less than a smaller one.
        stock = Stock(2, [("x", "ab"), ("y", "a-"), ("z", "-b")])
        box = Box(stock, [("..", "ab")])
        self.assertEqual(fewest_names(box), ("x",))
        self.assertEqual(cheapest_choice(box, (9, 4, 4)), (8, ("y", "z")))
        self.assertEqual(cheapest_choice(box, (8, 4, 4)), (8, ("x",)))

    def test_bad_prices_come_first(self):
        for box in (OPEN, NONE, ANY):
            for prices in [(), (1,), [1] * 4, [1] * 6]:
                with self.assertRaises(BadPrices):
                    cheapest_choice(box, prices)
        with self.assertRaises(BadPrices):
            cheapest_choice(Box(Stock(1, ()), ()), (0,))

    def test_order_of_sets(self):
        # By number of names first, then by their numbers in the stock, not by the letters.
        stock = Stock(3, [("z", "aa-"), ("y", "a--"), ("x", "--a"), ("w", "-aa")])
        box = Box(stock, [("...", "aaa")])
        self.assertEqual(least_choices(box), (("z", "x"), ("z", "w"), ("y", "w")))
        self.assertEqual(cheapest_choice(box, (2, 2, 2, 2)), (4, ("z", "x")))

    def test_seven_stamps_and_four_pairs(self):
        stock = Stock(7, [(f"n{k}", "-" * k + "a" + "-" * (6 - k)) for k in range(7)])
        box = Box(stock, [("." * 7, "a" * k + "." * (7 - k)) for k in (1, 3, 5, 6)])
        self.assertEqual(needed_names(box), stock.names[:6])
        self.assertEqual(least_choices(box), (stock.names[:6],))
        self.assertEqual(choice_count(box), 2)

    def test_against_all_sets(self):
        for seed in range(150):
            pairs, couples = random_box(seed)
            prices = [Random(seed + k).choice([0, 1, 2, 3, 999]) for k in range(4)]
            self.check(box_of(pairs, couples), in_order("xyzu", explaining(pairs, couples)), prices)

    def check(self, box, sets, prices):
        least = [one for one in sets if not any(set(two) < set(one) for two in sets)]
        self.assertEqual(least_choices(box), tuple(least))
        self.assertEqual(choice_count(box), len(sets))
        if not sets:
            for function in (needed_names, useful_names, fewest_names):
                self.assertIsNone(function(box))
            self.assertIsNone(cheapest_choice(box, prices))
            return
        self.assertEqual(needed_names(box), tuple(name for name in "xyzu" if all(name in one for one in sets)))
        self.assertEqual(useful_names(box), tuple(name for name in "xyzu" if any(name in one for one in least)))
        self.assertEqual(fewest_names(box), sets[0])
        costs = [sum(prices["xyzu".index(name)] for name in one) for one in sets]
        self.assertEqual(cheapest_choice(box, prices), (min(costs), sets[costs.index(min(costs))]))
