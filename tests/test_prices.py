"""Points 55 to 57, and the order of prices in point 60."""

import unittest
from random import Random

from stampsheets.errors import BadPrices, UnknownName
from stampsheets.freeing import freed_layers
from stampsheets.makings import is_made
from stampsheets.prices import cheapest, is_cost_table, price_order, row_cost
from stampsheets.stocks import Stock
from tests.plain import leading_rows, random_layer, random_pairs

STOCK = Stock(3, [("x", "ab-"), ("y", "-b."), ("z", "a--"), ("w", "a--")])
PRICES = (7, 3, 2, 2)
BAD = [(), (1,), [1] * 3, [1] * 5]


def plain_costs(pairs, prices, seen):
    """Return the least cost of peelings for each freed layer, by rounds until nothing changes."""
    costs = {seen: 0}
    before = None
    while costs != before:
        before = dict(costs)
        for left, cost in before.items():
            for (name, stamp), price in zip(pairs, prices):
                if all(a == b or "-" in (a, b) for a, b in zip(left, stamp)):
                    after = "".join(a if b == "-" else "-" for a, b in zip(left, stamp))
                    costs[after] = min(cost + price, costs.get(after, 10 ** 9))
    return costs


class RowCostTest(unittest.TestCase):
    def test_ordinary(self):
        self.assertEqual(row_cost(STOCK, PRICES, ("x", "y", "x")), 17)
        self.assertEqual(row_cost(STOCK, [7, 3, 2, 0], ["w"] * 60), 0)
        self.assertEqual(row_cost(STOCK, (999,) * 4, ["w"] * 60), 59940)
        self.assertEqual(row_cost(row=(), prices=PRICES, stock=STOCK), 0)
        self.assertEqual(row_cost(Stock(1, ()), (), ()), 0)

    def test_errors_in_order(self):
        for prices in BAD:
            with self.assertRaises(BadPrices):
                row_cost(STOCK, prices, ("no name",))
        for row, name in [(("x", "q", "p"), "q"), (["no name"], "no name"), (("",), "")]:
            with self.assertRaises(UnknownName) as caught:
                row_cost(STOCK, PRICES, row)
            self.assertEqual(caught.exception.name, name)

    def test_price_order(self):
        self.assertEqual(price_order(STOCK, PRICES), ("z", "w", "y", "x"))
        self.assertEqual(price_order(STOCK, [5, 5, 5, 5]), ("x", "y", "z", "w"))
        self.assertEqual(price_order(prices=(0, 999, 10, 9), stock=STOCK), ("x", "w", "z", "y"))
        self.assertEqual(price_order(Stock(1, ()), ()), ())
        for prices in BAD:
            with self.assertRaises(BadPrices):
                price_order(STOCK, prices)


class CheapestTest(unittest.TestCase):
    def test_ordinary(self):
        found = cheapest(STOCK, PRICES, "ccc", "ab.")
        self.assertEqual((found.cost, found.row), (5, ("y", "z")))
        self.assertEqual(found.table, (("ab.", 0), ("--.", 7), ("-b.", 2), ("a--", 3), ("---", 5)))
        found = cheapest(STOCK, [1, 3, 2, 2], "cc.", "ab.")
        self.assertEqual((found.cost, found.row), (1, ("x",)))
        found = cheapest(seen="qq-", start="...", prices=PRICES, stock=STOCK)
        self.assertEqual((found.cost, found.row, found.table), (None, None, (("qq-", 0),)))
        found = cheapest(STOCK, PRICES, "---", "ab-")
        self.assertEqual((found.cost, found.row), (0, ()))

    def test_cheaper_may_be_longer(self):
        stock = Stock(2, [("x", "ab"), ("y", "a-"), ("z", "-b")])
        self.assertEqual(cheapest(stock, (9, 4, 4), "..", "ab").row, ("y", "z"))
        self.assertEqual(cheapest(stock, (8, 4, 4), "..", "ab").row, ("x",))
        self.assertEqual(cheapest(stock, (0, 0, 0), "..", "ab").row, ("x",))
        self.assertEqual(cheapest(stock, (1, 0, 0), "..", "ab").row, ("y", "z"))
        self.assertEqual(cheapest(stock, (999, 999, 999), "..", "ab").cost, 999)

    def test_first_in_the_order_of_rows(self):
        self.assertEqual(cheapest(STOCK, (9, 1, 1, 1), "ccc", "ab.").row, ("y", "z"))
        stock = Stock(2, [("w", "a-"), ("z", "-a"), ("y", "a-"), ("x", "-a")])
        self.assertEqual(cheapest(stock, (2, 2, 2, 1), "..", "aa").row, ("w", "x"))
        self.assertEqual(cheapest(stock, (2, 1, 1, 1), "..", "aa").row, ("z", "y"))

    def test_empty_stock(self):
        found = cheapest(Stock(1, ()), (), "a", "a")
        self.assertEqual((found.cost, found.row, found.table), (0, (), (("a", 0),)))
        self.assertIsNone(cheapest(Stock(1, ()), (), "a", "b").cost)

    def test_bad_prices(self):
        for prices in BAD:
            with self.assertRaises(BadPrices):
                cheapest(STOCK, prices, "...", "qqq")
        with self.assertRaises(BadPrices):
            cheapest(Stock(1, ()), (0,), "a", "b")

    def test_many_layers(self):
        stock = Stock(8, [(f"n{k}", "-" * k + "a" + "-" * (7 - k)) for k in range(8)])
        found = cheapest(stock, list(range(1, 9)), "." * 8, "a" * 8)
        self.assertEqual((found.cost, found.row, len(found.table)), (36, stock.names, 256))

    def test_against_all_rows(self):
        for seed in range(120):
            random = Random(seed)
            pairs = random_pairs(seed, 3, 4, "--ab")
            prices = [random.choice([0, 1, 2, 3]) for _ in pairs]
            start, seen = random.choice(["zzz", "-a-", "bzz"]), random_layer(random, 3, "-ab")
            self.check(pairs, prices, start, seen)

    def check(self, pairs, prices, start, seen):
        stock = Stock(3, pairs)
        found = cheapest(stock, prices, start, seen)
        costs = plain_costs(pairs, prices, seen)
        self.assertEqual(found.table, tuple((left, costs[left]) for left in freed_layers(stock, seen)))
        # A cheapest row that is as short as possible frees some cell with each peeling.
        rows = leading_rows(pairs, start, seen, 3)
        told = [sum(prices["xyzu".index(name)] for name in row) for row in rows]
        if not rows:
            self.assertEqual((found.cost, found.row), (None, None))
            return
        self.assertEqual((found.cost, found.row), (min(told), rows[told.index(min(told))]))
        self.assertIs(is_made(stock, start, seen, found.row), True)
        self.assertIs(is_cost_table(stock, prices, start, seen, found.cost, found.table), True)
        self.assertIs(is_cost_table(stock, prices, start, seen, found.cost + 1, found.table), False)


class CostTableTest(unittest.TestCase):
    def setUp(self):
        self.table = cheapest(STOCK, PRICES, "ccc", "ab.").table

    def judged(self, least, table, start="ccc"):
        return is_cost_table(STOCK, PRICES, start, "ab.", least, table)

    def test_the_own_table(self):
        self.assertIs(self.judged(5, self.table), True)
        self.assertIs(self.judged(-3, self.table), True)
        self.assertIs(self.judged(6, self.table), False)
        self.assertIs(self.judged(4, self.table, "cc."), True)
        self.assertIs(is_cost_table(
            table=list(self.table), least=5, seen="ab.", start="...", prices=list(PRICES), stock=STOCK), True)

    def test_other_tables(self):
        table = [list(pair) for pair in self.table]
        self.assertIs(self.judged(5, table[::-1] * 2), True)
        self.assertIs(self.judged(5, table + [["ccz", 9], ["ab.", 8]]), True)
        self.assertIs(self.judged(4, [("ab.", -1), ("--.", 4), ("-b.", 1), ("a--", 2), ("---", 4)]), True)
        self.assertIs(self.judged(5, [("ab.", -1), ("--.", 4), ("-b.", 1), ("a--", 2), ("---", 4)]), False)
        # The empty table of numbers that are lower than they need be.
        self.assertIs(self.judged(0, [("ab.", 0), ("--.", 0), ("-b.", 0), ("a--", 0), ("---", 0)]), True)

    def test_a_pair_for_seen(self):
        self.assertIs(self.judged(5, ()), False)
        self.assertIs(self.judged(5, self.table[1:]), False)
        self.assertIs(self.judged(5, (("ab.", 1),) + self.table[1:]), False)
        self.assertIs(self.judged(5, (("ab.", 1),) + self.table), True)

    def test_a_pair_for_each_peeled_layer(self):
        for at in range(1, len(self.table)):
            self.assertIs(self.judged(0, self.table[:at] + self.table[at + 1:]), False)
            left, number = self.table[at]
            raised = self.table[:at] + ((left, number + 1),) + self.table[at + 1:]
            self.assertIs(self.judged(0, raised), False)
        # z leads from a layer that is not needed to one that is not there.
        self.assertIs(self.judged(5, self.table + (("ac-", 9),)), False)
        self.assertIs(self.judged(5, self.table + (("ac-", 9), ("-c-", 11))), True)
        self.assertIs(self.judged(5, self.table + (("ac-", 9), ("-c-", 12))), False)

    def test_the_condition_holds_for_every_pair(self):
        stock = Stock(1, [("x", "a")])
        self.assertIs(is_cost_table(stock, (4,), "b", "a", 4, [("a", 0), ("-", 4)]), True)
        self.assertIs(is_cost_table(stock, (4,), "b", "a", 4, [("a", 0), ("-", 5)]), False)
        self.assertIs(is_cost_table(stock, (4,), "b", "a", 5, [("a", 0), ("a", 1), ("-", 5)]), False)
        self.assertIs(is_cost_table(stock, (0,), "b", "a", 0, [("a", 0), ("-", 0)]), True)

    def test_the_layers_that_agree_with_start(self):
        self.assertIs(self.judged(2, self.table, "-b."), False)
        self.assertIs(self.judged(0, self.table, "-b."), True)
        self.assertIs(self.judged(5, self.table + (("ccc", 4),)), False)
        self.assertIs(self.judged(5, self.table + (("ccc", 5),)), True)

    def test_bad_prices(self):
        for prices in BAD:
            with self.assertRaises(BadPrices):
                is_cost_table(STOCK, prices, "ccc", "ab.", 5, ())
