"""Point 81: what the carbon can show."""

import unittest
from random import Random

from stampsheets.carbonmaking import carbon_making, carbon_sets
from stampsheets.carbons import carbon_layer, carbon_pairs, carbon_stock, pressed_pairs
from stampsheets.makings import making
from stampsheets.stocks import Stock
from tests.plain import all_subsets, leading_rows, leads, random_layer, random_pairs, rows_up_to

STOCK = Stock(2, [("x", "a-"), ("y", "-b"), ("z", "c-")])
ALL = ((0, "a"), (0, "c"), (1, "b"))


class CarbonMakingTest(unittest.TestCase):
    def test_ordinary(self):
        found = carbon_making(STOCK, "..", "ab", ((0, "a"), (1, "b")))
        self.assertEqual((found.made, found.row, found.cells, found.cell), (True, ("y", "x"), (), None))
        found = carbon_making(STOCK, "..", "ab", [(0, "c")])
        self.assertEqual((found.made, found.row, found.cells, found.cell), (False, None, (0, 1, 2, 3, 4), 0))
        found = carbon_making(STOCK, "..", "a-", [(0, "c"), (0, "a")])
        self.assertEqual((found.made, found.row, found.cells, found.cell), (True, ("z", "x"), (), None))
        found = carbon_making(pairs=ALL, seen="bb", start="..", stock=STOCK)
        self.assertEqual((found.made, found.row, found.cells, found.cell), (False, None, (0, 2, 3), 0))
        # The sheet alone could be made; that the carbon shows the pair could not.
        found = carbon_making(STOCK, "..", "..", ((0, "a"),))
        self.assertEqual((found.made, found.row, found.cells, found.cell), (False, None, (0, 1, 2, 3, 4), 2))

    def test_no_pairs_and_pairs_in_any_order(self):
        found = carbon_making(STOCK, "..", "ab", ())
        self.assertEqual((found.made, found.row, found.cells, found.cell), (False, None, (0, 1, 2, 3, 4), 0))
        found = carbon_making(STOCK, "ab", "ab", ())
        self.assertEqual((found.made, found.row, found.cells, found.cell), (True, (), (), None))
        one = carbon_making(STOCK, "..", "a-", ALL)
        two = carbon_making(STOCK, "..", "a-", [list(pair) for pair in ALL[::-1] * 2])
        self.assertEqual((one.made, one.row), (two.made, two.row))
        self.assertIs(carbon_making(Stock(1, ()), "a", "b", ()).made, False)
        self.assertIs(carbon_making(Stock(1, ()), "a", "a", ()).made, True)

    def test_it_is_the_making_of_the_layers(self):
        for seed in range(80):
            random = Random(seed)
            pairs = random_pairs(seed, 2, random.randrange(0, 4))
            stock = Stock(2, pairs)
            start, seen = random_layer(random, 2, "-.z"), random_layer(random, 2, "-ab.")
            chosen = [pair for pair in carbon_pairs(stock) if random.random() < 0.5]
            found = carbon_making(stock, start, seen, chosen)
            layers = carbon_layer(stock, start, ()), carbon_layer(stock, seen, chosen)
            plain = making(carbon_stock(stock), *layers)
            self.assertEqual((found.made, found.row, found.cells, found.cell),
                             (plain.made, plain.row, plain.cells, plain.cell))
            # Rows with at most as many presses as stamps: what can be made, they make.
            rows = [row for row in rows_up_to(stock.names, len(pairs))
                    if leads(carbon_stock(stock).stamps, *layers, row)]
            self.assertIs(found.made, len(rows) > 0)
            if found.made:
                self.assertIn(found.row, rows)

    def test_the_carbon_shows_exactly_these_pairs(self):
        made = refused = 0
        for seed in range(80):
            random = Random(seed)
            pairs = random_pairs(seed, 2, random.randrange(0, 4))
            stock = Stock(2, pairs)
            start, seen = random_layer(random, 2, "--.z"), random_layer(random, 2, "-ab.")
            # Each stamp is peeled off at most once.
            rows = leading_rows(pairs, start, seen, len(pairs))
            shown = {pressed_pairs(stock, row) for row in rows}
            sets = carbon_sets(stock, start, seen)
            for chosen in all_subsets(carbon_pairs(stock)):
                found = carbon_making(stock, start, seen, chosen)
                self.assertIs(found.made, chosen in shown)
                self.assertIs(found.made, chosen in sets)
                if found.made:
                    made += 1
                    self.assertIn(found.row, rows)
                    self.assertEqual(pressed_pairs(stock, found.row), chosen)
                elif rows:
                    refused += 1
        self.assertGreater(made, 80)
        self.assertGreater(refused, 80)


class CarbonSetsTest(unittest.TestCase):
    def test_ordinary(self):
        self.assertEqual(carbon_sets(STOCK, "..", "ab"), (((0, "a"), (1, "b")), ALL))
        self.assertEqual(carbon_sets(seen="a-", start="--", stock=STOCK), (
            (), ((0, "a"),), ((1, "b"),), ((0, "a"), (0, "c")), ((0, "a"), (1, "b")), ALL,
        ))
        self.assertEqual(carbon_sets(STOCK, "..", "qb"), ())

    def test_edges(self):
        self.assertEqual(carbon_sets(Stock(1, ()), "a", "a"), ((),))
        self.assertEqual(carbon_sets(Stock(1, ()), "a", "b"), ())
        # Two stamps that put the same there are one in the carbon.
        self.assertEqual(carbon_sets(Stock(1, [("x", "a"), ("y", "a")]), ".", "a"), (((0, "a"),),))

    def test_the_order_is_that_of_the_pairs(self):
        stock = Stock(1, [("x", "b"), ("y", "."), ("z", "a")])
        self.assertEqual(carbon_sets(stock, "-", "-"), (
            (), ((0, "."),), ((0, "a"),), ((0, "b"),), ((0, "."), (0, "a")), ((0, "."), (0, "b")), ((0, "a"), (0, "b")),
            ((0, "."), (0, "a"), (0, "b")),
        ))

    def test_six_stamps(self):
        stock = Stock(3, [(name, "-" * (k % 3) + "ab"[k // 3] + "-" * (2 - k % 3)) for k, name in enumerate("uvwxyz")])
        self.assertEqual(len(carbon_sets(stock, "---", "---")), 64)
        self.assertEqual(len(carbon_sets(stock, "...", "a-b")), 16)

    def test_against_all_rows(self):
        some = 0
        for seed in range(150):
            random = Random(seed)
            pairs = random_pairs(seed, 2, random.randrange(0, 4))
            stock = Stock(2, pairs)
            start, seen = random_layer(random, 2, "--.z"), random_layer(random, 2, "-ab.")
            # A row that presses each stamp need not be longer than twice the number of stamps.
            rows = leading_rows(pairs, start, seen, 2 * len(pairs) if len(pairs) < 3 else 5)
            shown = {pressed_pairs(stock, row) for row in rows}
            every = carbon_pairs(stock)
            wanted = [chosen for chosen in all_subsets(every) if chosen in shown]
            some += len(wanted) > 1
            self.assertEqual(carbon_sets(stock, start, seen), tuple(wanted))
        self.assertGreater(some, 40)
