"""Point 38: top sets."""

import unittest
from itertools import permutations

from stampsheets.errors import UnknownName
from stampsheets.orders import order_count
from stampsheets.stocks import Stock
from stampsheets.topsets import arranged, greatest_top_set, is_top_set, least_top_sets, stuck_names, top_sets
from tests.plain import all_subsets, in_order, layers_of, random_pairs

STOCK = Stock(2, [("z", "ac"), ("x", "a-"), ("y", "-b"), ("w", "q-")])


def peels_off(pairs, left, row):
    for name in row:
        stamp = dict(pairs)[name]
        if any(a != b and "-" not in (a, b) for a, b in zip(left, stamp)):
            return False
        left = "".join(a if b == "-" else "-" for a, b in zip(left, stamp))
    return True


def plain_top_sets(pairs, seen):
    sets = all_subsets([name for name, stamp in pairs])
    return [one for one in sets if any(peels_off(pairs, seen, row) for row in permutations(one))]


class TopSetsTest(unittest.TestCase):
    def test_ordinary(self):
        self.assertEqual(top_sets(STOCK, "ab"), (
            (), ("x",), ("y",), ("z", "y"), ("x", "y"), ("x", "w"), ("z", "x", "y"), ("z", "y", "w"), ("x", "y", "w"),
            ("z", "x", "y", "w")))
        self.assertEqual(greatest_top_set(STOCK, "ab"), ("z", "x", "y", "w"))
        self.assertEqual(stuck_names(STOCK, "ab"), ())
        self.assertEqual(least_top_sets(STOCK, "ab", "w"), (("x", "w"), ("z", "y", "w")))
        self.assertEqual(least_top_sets(STOCK, "ab", "z"), (("z", "y"),))

    def test_stuck(self):
        self.assertEqual(greatest_top_set(STOCK, "pb"), ("y",))
        self.assertEqual(stuck_names(seen="pb", stock=STOCK), ("z", "x", "w"))
        self.assertEqual(least_top_sets(name="x", seen="pb", stock=STOCK), ())
        self.assertEqual(top_sets(seen="pp", stock=STOCK), ((),))
        self.assertEqual(greatest_top_set(seen="pp", stock=STOCK), ())

    def test_arranged(self):
        self.assertEqual(arranged(STOCK, "ab", ["w", "x", "z", "y"]), ("x", "y", "z", "w"))
        self.assertEqual(arranged(STOCK, "ab", ("w", "x", "w", "x")), ("x", "w"))
        self.assertEqual(arranged(STOCK, "ab", ()), ())
        self.assertIsNone(arranged(STOCK, "ab", ("z", "x")))
        self.assertEqual(arranged(names=["y"], seen="ab", stock=STOCK), ("y",))
        self.assertIs(is_top_set(STOCK, "ab", ["y", "z", "y"]), True)
        self.assertIs(is_top_set(STOCK, "ab", ("z",)), False)
        self.assertIs(is_top_set(names=(), seen="pp", stock=STOCK), True)

    def test_unknown_names(self):
        for call in (is_top_set, arranged):
            with self.assertRaises(UnknownName) as caught:
                call(STOCK, "pp", ("x", "no name", "q"))
            self.assertEqual(caught.exception.name, "no name")
        with self.assertRaises(UnknownName) as caught:
            least_top_sets(STOCK, "pp", "no name")
        self.assertEqual(caught.exception.name, "no name")

    def test_empty_stock(self):
        empty = Stock(1, ())
        self.assertEqual(top_sets(empty, "a"), ((),))
        self.assertEqual(greatest_top_set(empty, "a"), ())
        self.assertEqual(stuck_names(empty, "a"), ())

    def test_seven_stamps(self):
        stock = Stock(7, [(f"n{k}", "-" * k + "a" + "-" * (6 - k)) for k in range(7)])
        self.assertEqual(list(top_sets(stock, "a" * 7)), in_order(stock.names, all_subsets(stock.names)))

    def test_against_all_sets(self):
        for seed in range(60):
            pairs = random_pairs(seed, 3, 4)
            stock = Stock(3, pairs)
            for seen in ["ab.", "a--", "b.a", ".ab", "---"]:
                self.check(pairs, stock, seen)

    def check(self, pairs, stock, seen):
        sets = in_order(stock.names, plain_top_sets(pairs, seen))
        self.assertEqual(top_sets(stock, seen), tuple(sets))
        most = set().union(*sets)
        self.assertEqual(greatest_top_set(stock, seen), tuple(n for n in stock.names if n in most))
        self.assertEqual(stuck_names(stock, seen), tuple(n for n in stock.names if n not in most))
        for name in stock.names:
            having = [one for one in sets if name in one]
            least = [one for one in having if not any(set(two) < set(one) for two in having)]
            self.assertEqual(least_top_sets(stock, seen, name), tuple(least))
        for one in all_subsets(stock.names):
            self.assertIs(is_top_set(stock, seen, one[::-1]), one in sets)
            self.assertEqual(arranged(stock, seen, one[::-1]), plainly_arranged(pairs, seen, one))
        uncovered = all(seen[c] == "-" for c in range(3) if all(stamp[c] == "-" for name, stamp in pairs))
        self.assertIs(order_count(stock, "zzz", seen) > 0, len(most) == 4 and uncovered)


def plainly_arranged(pairs, seen, names):
    row, rest = (), list(names)
    while rest:
        usable = [name for name in rest if peels_off(pairs, seen, row + (name,))]
        if not usable:
            return None
        row += (usable[0],)
        rest.remove(usable[0])
    return row
