"""Points 88 and 89: sheets side by side, and the parts of a stock."""

import unittest
from itertools import product
from math import comb
from random import Random

from stampsheets.chances import chance_sum
from stampsheets.counting import row_sum
from stampsheets.errors import NameTaken
from stampsheets.fastness import fast_cells
from stampsheets.freeing import freed_layers
from stampsheets.makings import is_made, making
from stampsheets.orders import order_count
from stampsheets.prices import cheapest
from stampsheets.shortest import distance, shortest_count, shortest_row
from stampsheets.sides import beside, beside_layer, part_layer, part_stock, parts_of
from stampsheets.stocks import Stock
from stampsheets.boxes import Box
from stampsheets.choices import choice_count, needed_names
from stampsheets.claims import Claim
from stampsheets.verdicts import verdict
from tests.plain import press_row, random_layer, random_pairs, random_stamp, rows_up_to

ONE = Stock(2, [("x", "a-"), ("y", "bb")])
TWO = Stock(1, [("p", "c"), ("q", ".")])


class BesideTest(unittest.TestCase):
    def test_ordinary(self):
        self.assertEqual(beside(ONE, TWO), Stock(3, [("x", "a--"), ("y", "bb-"), ("p", "--c"), ("q", "--.")]))
        self.assertEqual(beside(two=ONE, one=TWO), Stock(3, [("p", "c--"), ("q", ".--"), ("x", "-a-"), ("y", "-bb")]))
        self.assertEqual(beside_layer("a-", "b"), "a-b")
        self.assertEqual(beside_layer(two="a-", one="b"), "ba-")

    def test_the_empty_stock_on_either_side(self):
        empty = Stock(2, ())
        self.assertEqual(beside(empty, TWO), Stock(3, [("p", "--c"), ("q", "--.")]))
        self.assertEqual(beside(TWO, empty), Stock(3, [("p", "c--"), ("q", ".--")]))
        self.assertEqual(beside(empty, empty), Stock(4, ()))

    def test_sizes_up_to_thirty(self):
        stock = beside(Stock(29, [("x", "a" * 29)]), Stock(1, [("y", "b")]))
        self.assertEqual(stock.stamps, (("x", "a" * 29 + "-"), ("y", "-" * 29 + "b")))
        many = [Stock(12, [(f"{letter}{k}", "-" * k + "a" + "-" * (11 - k)) for k in range(12)]) for letter in "xy"]
        self.assertEqual(len(beside(*many)), 24)

    def test_names_that_both_have(self):
        for two, name in [
            (Stock(1, [("p", "c"), ("y", "a"), ("x", "a")]), "y"), (Stock(1, [("x", "a"), ("y", "a")]), "x"),
            (ONE, "x"), (Stock(2, [("y", "bb")]), "y"),
        ]:
            with self.assertRaises(NameTaken) as caught:
                beside(ONE, two)
            self.assertEqual(caught.exception.name, name)


class LedAsItsTwoStocksTest(unittest.TestCase):
    def each_case(self, many):
        for seed in range(many):
            random = Random(seed)
            one = Stock(2, random_pairs(seed, 2, random.randrange(0, 3)))
            two = Stock(2, [(name.replace("x", "p").replace("y", "q"), stamp)
                            for name, stamp in random_pairs(seed + 500, 2, random.randrange(0, 3))])
            told = []
            for stock in (one, two):
                start, seen = random_layer(random, 2, "--.z"), random_layer(random, 2, "-ab.")
                if len(stock) and random.random() < 0.8:
                    row = [random.choice(stock.names) for _ in range(3)]
                    seen = "".join("-" if random.random() < 0.3 else sign
                                   for sign in press_row(stock.stamps, start.replace("-", "z"), row))
                told.append((start, seen))
            (a, c), (b, d) = told
            yield one, two, (a, c), (b, d), beside(one, two), (beside_layer(a, b), beside_layer(c, d))

    def test_rows(self):
        made = 0
        for one, two, left, right, both, ends in self.each_case(60):
            for row in rows_up_to(both.names, 3):
                parts = [name for name in row if name in one], [name for name in row if name in two]
                wanted = is_made(one, *left, parts[0]) and is_made(two, *right, parts[1])
                made += wanted
                self.assertIs(is_made(both, *ends, row), wanted)
        self.assertGreater(made, 200)

    def test_what_can_be_made(self):
        for one, two, left, right, both, ends in self.each_case(200):
            first, second, whole = making(one, *left), making(two, *right), making(both, *ends)
            self.assertIs(whole.made, first.made and second.made)
            cells = fast_cells(one, left[1]) + tuple(cell + 2 for cell in fast_cells(two, right[1]))
            self.assertEqual(fast_cells(both, ends[1]), cells)
            self.assertEqual(set(freed_layers(both, ends[1])), {
                x + y for x, y in product(freed_layers(one, left[1]), freed_layers(two, right[1]))})

    def test_shortest_and_cheapest_rows_and_their_numbers(self):
        for one, two, left, right, both, ends in self.each_case(120):
            first, second = distance(one, *left), distance(two, *right)
            if first is None or second is None:
                self.assertIsNone(distance(both, *ends))
                self.assertIsNone(shortest_row(both, *ends))
                self.assertEqual(row_sum(both, *ends)(5), (0, 1))
                continue
            self.assertEqual(distance(both, *ends), first + second)
            self.assertEqual(shortest_count(both, *ends), shortest_count(one, *left) * shortest_count(two, *right)
                             * comb(first + second, first))
            prices = [k * 3 % 5 for k in range(len(both))]
            costs = [cheapest(one, prices[:len(one)], *left).cost, cheapest(two, prices[len(one):], *right).cost]
            self.assertEqual(cheapest(both, prices, *ends).cost, sum(costs))
            sums = row_sum(one, *left), row_sum(two, *right), row_sum(both, *ends)
            for n in range(6):
                ways = sum(comb(n, k) * sums[0](k)[0] * sums[1](n - k)[0] for k in range(n + 1))
                self.assertEqual(sums[2](n), (ways, 1))
            orders = order_count(one, *left) * order_count(two, *right) * comb(len(both), len(one))
            self.assertEqual(order_count(both, *ends), orders)

    def test_chances(self):
        for one, two, left, right, both, ends in self.each_case(60):
            if len(one) == 1 and len(two) == 1:
                total = chance_sum(both, ((1, 3), (2, 3)), *ends)
                for n in range(5):
                    first = [row_sum(one, *left)(k)[0] for k in range(n + 1)]
                    second = [row_sum(two, *right)(k)[0] for k in range(n + 1)]
                    wanted = sum(comb(n, k) * 2 ** (n - k) * first[k] * second[n - k] for k in range(n + 1))
                    self.assertEqual(total(n)[0] * 3 ** n, wanted * total(n)[1])

    def test_verdicts_and_boxes(self):
        for one, two, left, right, both, ends in self.each_case(120):
            if making(two, *right).made:
                for name in one.names:
                    alone = verdict(*left, Claim.of(one, ("used", name, 1)))
                    self.assertEqual(verdict(*ends, Claim.of(both, ("used", name, 1))).word, alone.word)
            first, second = Box(one, [left]), Box(two, [right])
            whole = Box(both, [ends])
            self.assertEqual(choice_count(whole), choice_count(first) * choice_count(second))
            if choice_count(whole) > 0:
                self.assertEqual(needed_names(whole), needed_names(first) + needed_names(second))


class PartsTest(unittest.TestCase):
    def test_ordinary(self):
        stock = Stock(6, [("z", "a----b"), ("y", "--a---"), ("x", "-a---b"), ("w", "--bc--")])
        self.assertEqual(parts_of(stock), (((0, 1, 5), ("z", "x")), ((2, 3), ("y", "w")), ((4,), ())))
        self.assertEqual(part_stock(stock, 0), Stock(3, [("z", "a-b"), ("x", "-ab")]))
        self.assertEqual(part_stock(group=1, stock=stock), Stock(2, [("y", "a-"), ("w", "bc")]))
        self.assertEqual(part_stock(stock, 2), Stock(1, ()))
        self.assertEqual([part_layer(stock, "abcdef", k) for k in range(3)], ["abf", "cd", "e"])
        self.assertEqual(part_layer(group=1, layer="ab-def", stock=stock), "-d")

    def test_chains(self):
        # The last stamp joins two groups, of which the first one begins later.
        stock = Stock(5, [("a", "--aa-"), ("b", "aa---"), ("c", "-a-a-")])
        self.assertEqual(parts_of(stock), (((0, 1, 2, 3), ("a", "b", "c")), ((4,), ())))
        chain = Stock(6, [("a", "----aa"), ("b", "---aa-"), ("c", "--aa--"), ("d", "-aa---"), ("e", "aa----")])
        self.assertEqual(parts_of(stock=chain), (((0, 1, 2, 3, 4, 5), ("a", "b", "c", "d", "e")),))

    def test_edges(self):
        self.assertEqual(parts_of(Stock(2, ())), (((0,), ()), ((1,), ())))
        self.assertEqual(parts_of(Stock(1, [("x", "a"), ("y", "b")])), (((0,), ("x", "y")),))
        self.assertEqual(len(parts_of(Stock(30, ()))), 30)

    def test_against_a_search(self):
        for seed in range(150):
            random = Random(seed)
            stamps = [random_stamp(random, 7, "-----ab") for _ in range(random.randrange(0, 4))]
            stock = Stock(7, [(f"n{k}", stamp) for k, stamp in enumerate(stamps)])
            groups = {cell: {cell} for cell in range(7)}
            for _ in range(7):
                for stamp in stamps:
                    cells = [cell for cell in range(7) if stamp[cell] != "-"]
                    joint = set().union(*[groups[cell] for cell in cells])
                    for cell in joint:
                        groups[cell] = joint
            wanted = sorted({tuple(sorted(cells)) for cells in groups.values()})
            self.assertEqual([cells for cells, names in parts_of(stock)], wanted)
            for number, (cells, names) in enumerate(parts_of(stock)):
                self.assertEqual(names, tuple(n for n, s in stock if any(s[cell] != "-" for cell in cells)))
                part = part_stock(stock, number)
                self.assertEqual(part.size, len(cells))
                self.assertEqual(part.stamps, tuple((n, "".join(stock.stamp(n)[c] for c in cells)) for n in names))

    def test_parts_are_led_alone(self):
        for seed in range(80):
            random = Random(seed)
            stock = Stock(4, [(f"n{k}", random_stamp(random, 4, "----ab")) for k in range(3)])
            start, seen = random_layer(random, 4, "--z."), random_layer(random, 4, "-ab")
            parts = [making(part_stock(stock, k), part_layer(stock, start, k), part_layer(stock, seen, k)).made
                     for k in range(len(parts_of(stock)))]
            self.assertIs(making(stock, start, seen).made, all(parts))
