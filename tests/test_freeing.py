"""Points 16 to 18: freed layers, and what bounds the presses."""

import unittest

from stampsheets.freeing import freed_layers, is_step_table, step_table
from stampsheets.shortest import distance, shortest_count, shortest_row
from stampsheets.stocks import Stock
from tests.plain import layers_of, leading_rows, random_pairs

STOCK = Stock(3, [("x", "ab-"), ("y", "-b."), ("z", "a--"), ("w", "a--")])


def plain_steps(pairs, seen):
    """Return the least number of peelings for each freed layer, by rounds over all of them."""
    steps = {seen: 0}
    for number in range(1, 40):
        for left in list(steps):
            for name, stamp in pairs:
                if all(a == b or "-" in (a, b) for a, b in zip(left, stamp)):
                    after = "".join(a if b == "-" else "-" for a, b in zip(left, stamp))
                    if steps[left] == number - 1:
                        steps.setdefault(after, number)
    return steps


class FreedLayersTest(unittest.TestCase):
    def test_ordinary(self):
        layers = ("ab.", "--.", "-b.", "a--", "---")
        self.assertEqual(freed_layers(STOCK, "ab."), layers)
        self.assertEqual(step_table(STOCK, "ab."), tuple(zip(layers, (0, 1, 1, 1, 2))))
        self.assertEqual(freed_layers(seen="ccc", stock=STOCK), ("ccc",))
        self.assertEqual(step_table(seen="---", stock=STOCK), (("---", 0),))
        self.assertEqual(freed_layers(Stock(1, ()), "a"), ("a",))

    def test_all_small(self):
        for seed in range(40):
            pairs = random_pairs(seed, 3, 3)
            for seen in layers_of(3, "-a."):
                steps = plain_steps(pairs, seen)
                wanted = sorted(steps, key=lambda left: (steps[left], left))
                self.assertEqual(freed_layers(Stock(3, pairs), seen), tuple(wanted))
                self.assertEqual(step_table(Stock(3, pairs), seen), tuple((left, steps[left]) for left in wanted))

    def test_many_layers(self):
        stock = Stock(8, [(f"n{k}", "-" * k + "a" + "-" * (7 - k)) for k in range(8)])
        layers = freed_layers(stock, "a" * 8)
        self.assertEqual(len(layers), 256)
        self.assertEqual((layers[0], layers[-1]), ("a" * 8, "-" * 8))
        self.assertEqual(distance(stock, "." * 8, "a" * 8), 8)
        self.assertEqual(shortest_row(stock, "." * 8, "a" * 8), stock.names)
        self.assertEqual(shortest_count(stock, "." * 8, "a" * 8), 40320)


class ShortestTest(unittest.TestCase):
    def test_ordinary(self):
        self.assertEqual(distance(STOCK, "...", "ab."), 1)
        self.assertEqual(shortest_row(STOCK, "...", "ab."), ("x",))
        self.assertEqual(shortest_count(STOCK, "...", "ab."), 1)
        self.assertEqual(distance(STOCK, "ccc", "ab."), 2)
        self.assertEqual(shortest_row(STOCK, "ccc", "ab."), ("x", "y"))
        self.assertEqual(shortest_count(STOCK, "ccc", "ab."), 6)
        self.assertEqual(distance(STOCK, "ab-", "-b."), 0)
        self.assertEqual(shortest_row(STOCK, "ab-", "-b."), ())
        self.assertEqual(shortest_count(STOCK, "ab-", "-b."), 1)
        self.assertIsNone(distance(seen="ccc", start="...", stock=STOCK))
        self.assertIsNone(shortest_row(seen="ccc", start="...", stock=STOCK))
        self.assertEqual(shortest_count(seen="ccc", start="...", stock=STOCK), 0)

    def test_equal_stamps_count_each(self):
        stock = Stock(2, [("y", "a-"), ("x", "a-"), ("z", "-a")])
        self.assertEqual(shortest_count(stock, "..", "aa"), 4)
        self.assertEqual(shortest_row(stock, "..", "aa"), ("y", "z"))

    def test_empty_stock(self):
        self.assertEqual(shortest_row(Stock(1, ()), "a", "-"), ())
        self.assertIsNone(shortest_row(Stock(1, ()), "a", "b"))

    def test_against_all_rows(self):
        for seed in range(60):
            pairs = random_pairs(seed, 3, 3, "-ab")
            stock = Stock(3, pairs)
            for start, seen in [("zzz", "aba"), ("b-a", "ab-"), ("zzz", "a-b"), ("---", "bba"), ("baz", "aab")]:
                rows = leading_rows(pairs, start, seen, 4)
                if rows:
                    best = len(rows[0])
                    self.assertEqual(distance(stock, start, seen), best)
                    self.assertEqual(shortest_row(stock, start, seen), rows[0])
                    many = len([row for row in rows if len(row) == best])
                    self.assertEqual(shortest_count(stock, start, seen), many)
                else:
                    self.assertIsNone(distance(stock, start, seen))
                    self.assertIsNone(shortest_row(stock, start, seen))
                    self.assertEqual(shortest_count(stock, start, seen), 0)


class StepTableTest(unittest.TestCase):
    def test_the_own_table(self):
        table = step_table(STOCK, "ab.")
        self.assertIs(is_step_table(STOCK, "ccc", "ab.", 2, table), True)
        self.assertIs(is_step_table(STOCK, "ccc", "ab.", 3, table), False)
        self.assertIs(is_step_table(STOCK, "ccc", "ab.", -5, table), True)
        self.assertIs(is_step_table(table=table, least=1, seen="ab.", start="...", stock=STOCK), True)

    def test_lists_repetition_and_more(self):
        table = [list(pair) for pair in step_table(STOCK, "ab.")]
        self.assertIs(is_step_table(STOCK, "ccc", "ab.", 2, table), True)
        self.assertIs(is_step_table(STOCK, "ccc", "ab.", 2, table[::-1] * 2), True)
        self.assertIs(is_step_table(STOCK, "ccc", "ab.", 2, table + [["ccz", 9]]), True)
        self.assertIs(is_step_table(STOCK, "ccc", "ab.", 2, table + [["ab.", 5]]), True)
        self.assertIs(is_step_table(STOCK, "ccc", "ab.", 2, table + [["ab.", -1]]), False)

    def test_each_condition(self):
        table = step_table(STOCK, "ab.")
        self.assertIs(is_step_table(STOCK, "ccc", "ab.", 2, table[1:]), False)
        self.assertIs(is_step_table(STOCK, "ccc", "ab.", 2, ()), False)
        self.assertIs(is_step_table(STOCK, "ccc", "ab.", 2, table[:-1]), False)
        raised = (("ab.", 1),) + table[1:]
        self.assertIs(is_step_table(STOCK, "ccc", "ab.", 2, raised), False)
        raised = table[:-1] + (("---", 3),)
        self.assertIs(is_step_table(STOCK, "ccc", "ab.", 2, raised), False)
        self.assertIs(is_step_table(STOCK, "ccc", "ab.", 2, table + (("c.-", 1), ("c--", 1))), False)
        self.assertIs(is_step_table(STOCK, "ccc", "ab.", 0, table + (("-b-", 1),)), True)
        self.assertIs(is_step_table(STOCK, "ccc", "ab.", 0, table + (("-bb", 0),)), False)

    def test_one_more_for_every_pair(self):
        stock = Stock(1, [("x", "a")])
        self.assertIs(is_step_table(stock, "b", "a", 1, [("a", 0), ("-", 1)]), True)
        self.assertIs(is_step_table(stock, "b", "a", 1, [("a", 0), ("-", 2)]), False)
        self.assertIs(is_step_table(stock, "b", "a", 1, [("a", 0), ("a", 1), ("-", 1)]), True)
        self.assertIs(is_step_table(stock, "b", "a", 2, [("a", 1), ("-", 2)]), False)
        self.assertIs(is_step_table(stock, "b", "a", 2, [("a", 1), ("a", 0), ("-", 2)]), False)
        self.assertIs(is_step_table(stock, "b", "a", 0, [("a", -1), ("-", 0)]), True)

    def test_small_stocks(self):
        for seed in range(40):
            stock = Stock(3, random_pairs(seed, 3, 3))
            for start, seen in [("zzz", "aba"), ("b-a", "ab-"), ("...", "a.b")]:
                table = step_table(stock, seen)
                least = distance(stock, start, seen)
                self.assertIs(is_step_table(stock, start, seen, 30 if least is None else least, table), True)
                if least is not None:
                    self.assertIs(is_step_table(stock, start, seen, least + 1, table), False)
