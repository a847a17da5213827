"""Point 58: weighing the marks of an unreadable cell."""

import unittest
from random import Random

from stampsheets.errors import BadPrices
from stampsheets.prices import cheapest
from stampsheets.stocks import Stock
from stampsheets.weighing import mark_costs, mark_margin
from tests.plain import MARKS, leading_rows, random_layer, random_pairs

STOCK = Stock(3, [("x", "ab-"), ("y", "-b."), ("z", "a--"), ("w", "c--")])
PRICES = (7, 3, 2, 1)


class WeighingTest(unittest.TestCase):
    def test_ordinary(self):
        self.assertEqual(mark_costs(STOCK, PRICES, "...", "-b.", 0), ((".", 3), ("a", 5), ("c", 4)))
        self.assertEqual(mark_margin(STOCK, PRICES, "...", "-b.", 0), (".", 1))
        self.assertEqual(mark_costs(STOCK, [7, 3, 0, 1], ".q.", "-b.", 0), ((".", 3), ("a", 3), ("c", 4)))
        self.assertEqual(mark_margin(STOCK, [7, 3, 0, 1], ".q.", "-b.", 0), (".", 0))
        self.assertEqual(mark_margin(STOCK, (7, 3, 2, 0), "qq.", "-b.", 0), ("c", 0))
        self.assertEqual(mark_margin(STOCK, (7, 3, 2, 0), "c..", "-b.", 0), ("c", 2))
        self.assertEqual(mark_costs(cell=1, seen="a--", start="...", prices=PRICES, stock=STOCK),
                         ((".", 2), ("b", 5)))
        self.assertEqual(mark_margin(cell=1, seen="a--", start="...", prices=PRICES, stock=STOCK), (".", 3))

    def test_the_price_of_another_way(self):
        self.assertEqual(mark_costs(STOCK, (4, 3, 2, 1), "...", "a--", 1), ((".", 2), ("b", 4)))

    def test_no_mark(self):
        self.assertEqual(mark_costs(STOCK, PRICES, "...", "-q.", 0), ())
        self.assertIsNone(mark_margin(STOCK, PRICES, "...", "-q.", 0))

    def test_one_mark(self):
        self.assertEqual(mark_costs(STOCK, PRICES, "...", "ab-", 2), ((".", 5),))
        self.assertEqual(mark_margin(STOCK, PRICES, "...", "ab-", 2), (".", None))

    def test_start_with_a_dash(self):
        pairs = mark_costs(STOCK, PRICES, "-..", "-..", 0)
        self.assertEqual(pairs, tuple((mark, 0) for mark in MARKS))
        self.assertEqual(mark_margin(STOCK, PRICES, "-..", "-..", 0), (".", 0))
        self.assertEqual(mark_costs(STOCK, PRICES, "q..", "-..", 0), (("a", 2), ("c", 1), ("q", 0)))

    def test_empty_stock(self):
        self.assertEqual(mark_costs(Stock(1, ()), (), "b", "-", 0), (("b", 0),))
        self.assertEqual(mark_margin(Stock(1, ()), (), "b", "-", 0), ("b", None))
        self.assertEqual(len(mark_costs(Stock(1, ()), [], "-", "-", 0)), 27)

    def test_most_stamps(self):
        stock = Stock(1, [(f"m{k}", mark) for k, mark in enumerate(MARKS[:24])])
        costs = mark_costs(stock, [k % 5 for k in range(24)], "z", "-", 0)
        self.assertEqual(costs, tuple((mark, k % 5) for k, mark in enumerate(MARKS[:24])) + (("z", 0),))

    def test_no_strange_mark_is_left(self):
        # More stamps than the document allows; then each mark is known.
        stock = Stock(1, [(f"m{k}", mark) for k, mark in enumerate(MARKS)])
        costs = mark_costs(stock, list(range(27)), "z", "-", 0)
        self.assertEqual(costs, tuple((mark, k) for k, mark in enumerate(MARKS[:26])) + (("z", 0),))

    def test_bad_prices(self):
        for call in (mark_costs, mark_margin):
            for prices in [(), (1,) * 3, [1] * 5]:
                with self.assertRaises(BadPrices):
                    call(STOCK, prices, "...", "-q.", 0)

    def test_against_every_mark(self):
        for seed in range(60):
            random = Random(seed)
            stock = Stock(3, random_pairs(seed, 3, 4, "--ab"))
            prices = [random.choice([0, 1, 2, 3]) for _ in range(4)]
            start, seen = random_layer(random, 3, "-abq"), "-" + random_layer(random, 2, "-ab")
            costs = {mark: cheapest(stock, prices, start, mark + seen[1:]).cost for mark in MARKS}
            wanted = tuple((mark, costs[mark]) for mark in MARKS if costs[mark] is not None)
            self.assertEqual(mark_costs(stock, prices, start, seen, 0), wanted)
            self.check_margin(wanted, mark_margin(stock, prices, start, seen, 0))

    def check_margin(self, pairs, found):
        if not pairs:
            self.assertIsNone(found)
            return
        best = min(cost for mark, cost in pairs)
        mark = [mark for mark, cost in pairs if cost == best][0]
        others = [cost for other, cost in pairs if other != mark]
        self.assertEqual(found, (mark, min(others) - best if others else None))

    def test_against_all_rows(self):
        for seed in range(15):
            pairs = random_pairs(seed, 2, 3, "-ab")
            for start, seen in [("zz", "-a"), ("-z", "-b"), ("az", "--")]:
                wanted = []
                for mark in ".abyz":
                    rows = leading_rows(pairs, start, mark + seen[1:], 2, "ab.yz")
                    if rows:
                        wanted.append((mark, min(5 * len(row) - 2 * row.count("y") for row in rows)))
                costs = mark_costs(Stock(2, pairs), (5, 3, 5), start, seen, 0)
                self.assertEqual([pair for pair in costs if pair[0] in ".abyz"], wanted)
