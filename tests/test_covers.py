"""Points 67 and 68: which press is the last to cover a cell, and waits."""

import unittest
from fractions import Fraction

from stampsheets.covers import cover_sum, cover_wait, top_sum, wait_table
from stampsheets.errors import BadChances, UnknownName
from stampsheets.stocks import Stock
from tests.chancecases import BAD_CHANCES, pair_of, random_chances, rows_of
from tests.plain import all_subsets, atom_true, random_pairs

STOCK = Stock(4, [("x", "ab--"), ("y", "-c--"), ("z", "--d-"), ("w", "---a")])
CHANCES = ((1, 2), (1, 3), (1, 6), (0, 1))
ONE, ZERO = (1, 1), (0, 1)


def cells_covered(pairs, row):
    return {cell for name in row for cell, sign in enumerate(dict(pairs)[name]) if sign != "-"}


class TopSumTest(unittest.TestCase):
    def test_ordinary(self):
        self.assertEqual(top_sum(STOCK, CHANCES, 1, "x").terms, (((1, 6), (-3, 5)), (ONE, (3, 5))))
        self.assertEqual(top_sum(STOCK, CHANCES, 1, "y").terms, (((1, 6), (-2, 5)), (ONE, (2, 5))))
        self.assertEqual(top_sum(STOCK, CHANCES, 1, None).terms, (((1, 6), ONE),))
        self.assertEqual(top_sum(name="x", cell=0, chances=CHANCES, stock=STOCK).terms, (
            ((1, 2), (-1, 1)), (ONE, ONE)))

    def test_stamps_that_do_not_cover_the_cell(self):
        self.assertEqual(top_sum(STOCK, CHANCES, 1, "z").terms, ())
        # w covers the cell, but it is never drawn.
        self.assertEqual(top_sum(STOCK, CHANCES, 3, "w").terms, ())
        self.assertEqual(top_sum(STOCK, CHANCES, 3, None).terms, ((ONE, ONE),))

    def test_chance_one(self):
        sure = [ONE, ZERO, ZERO, ZERO]
        self.assertEqual(top_sum(STOCK, sure, 0, "x").terms, ((ZERO, (-1, 1)), (ONE, ONE)))
        self.assertEqual(top_sum(STOCK, sure, 0, None).terms, ((ZERO, ONE),))
        self.assertEqual([top_sum(STOCK, sure, 0, "x")(n) for n in (0, 1, 200)], [ZERO, ONE, ONE])

    def test_errors_in_order(self):
        for chances in BAD_CHANCES:
            for name in ["x", "no name", None]:
                with self.assertRaises(BadChances):
                    top_sum(STOCK, chances, 0, name)
        for name in ["q", "", "no name"]:
            with self.assertRaises(UnknownName) as caught:
                top_sum(STOCK, CHANCES, 0, name)
            self.assertEqual(caught.exception.name, name)

    def test_against_all_rows(self):
        for seed in range(30):
            pairs, chances = random_pairs(seed, 2, 3), random_chances(seed, 3)
            for cell in range(2):
                for name in ("x", "y", "z", None):
                    total = top_sum(Stock(2, pairs), chances, cell, name)
                    for n in range(5):
                        wanted = sum(c for row, c in rows_of("xyz", chances, n)
                                     if atom_true(pairs, ("top", cell, name), row))
                        self.assertEqual(total(n), pair_of(Fraction(wanted)))


class CoversTest(unittest.TestCase):
    def test_cover_sum(self):
        self.assertEqual(cover_sum(STOCK, CHANCES, (0,)).terms, (((1, 2), (-1, 1)), (ONE, ONE)))
        self.assertEqual(cover_sum(STOCK, CHANCES, [1, 0, 1]).terms, (((1, 2), (-1, 1)), (ONE, ONE)))
        self.assertEqual(cover_sum(chosen=(1, 2), chances=CHANCES, stock=STOCK).terms, (
            (ZERO, ONE), ((1, 6), (-1, 1)), ((5, 6), (-1, 1)), (ONE, ONE)))
        self.assertEqual(cover_sum(STOCK, CHANCES, ()).terms, ((ONE, ONE),))
        self.assertEqual(cover_sum(STOCK, CHANCES, (0, 3)).terms, ())

    def test_cover_wait(self):
        self.assertEqual(cover_wait(STOCK, CHANCES, (0,)), (2, 1))
        self.assertEqual(cover_wait(STOCK, CHANCES, [1, 1]), (6, 5))
        self.assertEqual(cover_wait(STOCK, CHANCES, (0, 2)), (13, 2))
        self.assertEqual(cover_wait(chosen=[], chances=CHANCES, stock=STOCK), ZERO)
        self.assertIsNone(cover_wait(STOCK, CHANCES, (0, 3)))
        self.assertIsNone(cover_wait(STOCK, CHANCES, [3]))
        self.assertEqual(cover_wait(STOCK, (ONE, ZERO, ZERO, ZERO), (0, 1)), ONE)
        bare = Stock(2, [("x", "a-")])
        self.assertIsNone(cover_wait(bare, [[1, 1]], (1,)))
        self.assertEqual(wait_table(bare, [[1, 1]], (1, 0)), ())

    def test_wait_table(self):
        self.assertEqual(wait_table(STOCK, CHANCES, [2, 1, 0, 1]), (
            ((0, 1, 2), (13, 2)), ((0, 1), (2, 1)), ((0, 2), (13, 2)), ((0,), (2, 1)), ((2,), (6, 1))))
        self.assertEqual(wait_table(STOCK, CHANCES, (0, 1)), (((0, 1), (2, 1)), ((0,), (2, 1))))
        self.assertEqual(wait_table(chosen=(), chances=CHANCES, stock=STOCK), ())
        self.assertEqual(wait_table(STOCK, CHANCES, (0, 1, 3)), ())

    def test_order_of_sets(self):
        stock = Stock(3, [("z", "--a"), ("y", "-a-"), ("x", "a--")])
        table = wait_table(stock, [(1, 3)] * 3, (2, 0, 1))
        self.assertEqual(table, (
            ((0, 1, 2), (11, 2)), ((0, 1), (9, 2)), ((0, 2), (9, 2)), ((1, 2), (9, 2)), ((0,), (3, 1)),
            ((1,), (3, 1)), ((2,), (3, 1))))

    def test_many_sets(self):
        stock = Stock(7, [(f"n{k}", "-" * k + "a" + "-" * (6 - k)) for k in range(7)])
        cells = tuple(range(7))
        self.assertEqual(len(wait_table(stock, [(1, 7)] * 7, cells)), 127)
        wanted = sum(Fraction(7, many) for many in range(1, 8))
        self.assertEqual(cover_wait(stock, [(1, 7)] * 7, cells), pair_of(wanted))

    def test_bad_chances(self):
        for chances in BAD_CHANCES:
            for call in (cover_sum, cover_wait, wait_table):
                for chosen in [(), (0,), (3,)]:
                    with self.assertRaises(BadChances):
                        call(STOCK, chances, chosen)

    def test_against_all_rows(self):
        for seed in range(30):
            pairs, chances = random_pairs(seed, 3, 3, "--a"), random_chances(seed, 3)
            for chosen in all_subsets(range(3)):
                total = cover_sum(Stock(3, pairs), chances, chosen[::-1])
                for n in range(5):
                    wanted = sum(c for row, c in rows_of("xyz", chances, n)
                                 if set(chosen) <= cells_covered(pairs, row))
                    self.assertEqual(total(n), pair_of(Fraction(wanted)))
                self.check_waits(pairs, chances, chosen, total)

    def check_waits(self, pairs, chances, chosen, total):
        stock = Stock(3, pairs)
        wait, table = cover_wait(stock, chances, chosen), wait_table(stock, chances, chosen)
        drawn = [(name, Fraction(*chance)) for (name, stamp), chance in zip(pairs, chances) if chance[0] > 0]
        if not set(chosen) <= cells_covered(pairs, [name for name, chance in drawn]):
            self.assertEqual((wait, table, total.terms), (None, (), ()))
            return
        # The mean wait is the sum, over all n, of the chance that n presses are not enough.
        missing = [(Fraction(*base), -Fraction(*c)) for base, c in total if base != ONE]
        self.assertEqual(wait, pair_of(sum((c / (1 - base) for base, c in missing), Fraction(0))))
        waits = {cells: Fraction(*told) for cells, told in table}
        waits[()] = Fraction(0)
        known = {tuple(chosen)}
        while True:
            more = {tuple(c for c in cells if c not in cells_covered(pairs, [name]))
                    for cells in known for name, chance in drawn} | known
            if more == known:
                break
            known = more
        self.assertEqual(set(waits), known | {()})
        self.assertEqual(list(table), sorted(table, key=lambda pair: (-len(pair[0]), pair[0])))
        for cells in known - {()}:
            later = [tuple(c for c in cells if c not in cells_covered(pairs, [name])) for name, chance in drawn]
            self.assertEqual(waits[cells], 1 + sum(c * waits[left] for (_, c), left in zip(drawn, later)))
        if chosen:
            self.assertEqual(table[0], (tuple(chosen), wait))
