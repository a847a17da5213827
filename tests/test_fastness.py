"""Point 13: fast sets."""

import unittest

from stampsheets.fastness import fast_cells, fast_sets, is_fast
from stampsheets.peels import peeling
from stampsheets.stocks import Stock
from tests.plain import all_subsets, layers_of, random_pairs


def plainly_fast(pairs, seen, chosen):
    if any(seen[cell] == "-" for cell in chosen):
        return False
    for name, stamp in pairs:
        if any(stamp[cell] != "-" for cell in chosen):
            if not any(stamp[cell] not in ("-", seen[cell]) for cell in chosen):
                return False
    return True


class FastnessTest(unittest.TestCase):
    def test_ordinary(self):
        stock = Stock(3, [("x", "ab-"), ("y", "-c-")])
        self.assertIs(is_fast(stock, "ac.", (0, 2)), False)
        self.assertIs(is_fast(stock, "aa.", (0, 1)), True)
        self.assertIs(is_fast(stock, "aa.", [1, 0, 1, 0]), True)
        self.assertIs(is_fast(stock, "aa.", (1,)), True)
        self.assertIs(is_fast(stock, "aa.", (0,)), False)
        self.assertIs(is_fast(stock, "aa-", (2,)), False)
        self.assertIs(is_fast(stock, "aa.", ()), True)
        self.assertIs(is_fast(chosen=(2,), seen="aa.", stock=stock), True)
        self.assertEqual(fast_cells(stock, "aa."), (0, 1, 2))
        self.assertEqual(fast_sets(stock, "aa."), ((), (1,), (2,), (0, 1), (1, 2), (0, 1, 2)))
        self.assertEqual(fast_cells(seen="ab-", stock=stock), ())
        self.assertEqual(fast_sets(seen="ab-", stock=stock), ((),))

    def test_empty_stock(self):
        self.assertEqual(fast_cells(Stock(2, ()), "a-"), (0,))
        self.assertEqual(fast_sets(Stock(2, ()), "a-"), ((), (0,)))
        self.assertEqual(fast_cells(Stock(1, ()), "-"), ())

    def test_ten_cells(self):
        sets = fast_sets(Stock(10, ()), "a" * 10)
        self.assertEqual(len(sets), 1024)
        self.assertEqual(sets, tuple(all_subsets(range(10))))

    def test_all_small(self):
        for seed in range(40):
            pairs = random_pairs(seed, 3, 3)
            stock = Stock(3, pairs)
            for seen in layers_of(3, "-ab"):
                fast = [chosen for chosen in all_subsets(range(3)) if plainly_fast(pairs, seen, chosen)]
                self.assertEqual(fast_sets(stock, seen), tuple(fast))
                self.assertEqual(fast_cells(stock, seen), tuple(sorted(set().union(*fast))))
                left = peeling(stock, seen).left
                self.assertEqual(fast_cells(stock, seen), tuple(k for k in range(3) if left[k] != "-"))
                for chosen in all_subsets(range(3)):
                    self.assertIs(is_fast(stock, seen, chosen), chosen in fast)
