"""Points 64 to 66: chances."""

import unittest
from fractions import Fraction
from random import Random

from stampsheets.chances import after_press, chance_sum, long_chance, resting_chances, sheet_chances
from stampsheets.errors import BadChances
from stampsheets.powersums import long_run
from stampsheets.stocks import Stock
from tests.chancecases import BAD_CHANCES, pair_of, random_chances, rows_of
from tests.plain import leads, press_row, random_layer, random_pairs, reachable

STOCK = Stock(2, [("x", "a-"), ("y", "-b"), ("z", "cc"), ("w", "a-")])
CHANCES = ((1, 2), (1, 3), (1, 6), (0, 1))


class ChanceSumTest(unittest.TestCase):
    def test_ordinary(self):
        self.assertEqual(chance_sum(STOCK, CHANCES, "..", "ab").terms, (
            ((0, 1), (5, 6)), ((1, 3), (-3, 4)), ((1, 2), (-2, 3)), ((1, 1), (7, 12))))
        self.assertEqual(chance_sum(seen="cc", start="..", chances=CHANCES, stock=STOCK)(1), (1, 6))
        self.assertEqual(long_chance(STOCK, CHANCES, "..", "ab"), (7, 12))
        self.assertEqual(long_chance(seen="a-", start="..", chances=CHANCES, stock=STOCK), (3, 4))

    def test_edges(self):
        self.assertEqual(chance_sum(STOCK, CHANCES, "..", "qq").terms, ())
        self.assertEqual(long_chance(STOCK, CHANCES, "..", "qq"), (0, 1))
        self.assertEqual(chance_sum(STOCK, CHANCES, "..", "--").terms, (((1, 1), (1, 1)),))
        self.assertEqual(chance_sum(STOCK, CHANCES, "..", "..").terms, (((0, 1), (1, 1)),))
        self.assertEqual(chance_sum(STOCK, CHANCES, "--", "q-").terms, (((1, 3), (1, 1)),))

    def test_chances_of_zero_and_one(self):
        # Only w can be drawn, though x would do the same.
        sure = ((0, 1), (0, 1), (0, 1), (1, 1))
        self.assertEqual(chance_sum(STOCK, sure, "..", "a.").terms, (((0, 1), (-1, 1)), ((1, 1), (1, 1))))
        self.assertEqual(chance_sum(STOCK, sure, "..", "ab").terms, ())
        self.assertEqual(long_chance(STOCK, sure, "..", "a."), (1, 1))
        self.assertEqual(chance_sum(Stock(1, [("x", "a")]), [[1, 1]], ".", "-").terms, (((1, 1), (1, 1)),))

    def test_lists(self):
        chances = [[1, 2], [1, 3], [1, 6], [0, 1]]
        self.assertEqual(chance_sum(STOCK, chances, "..", "ab"), chance_sum(STOCK, CHANCES, "..", "ab"))
        self.assertEqual(chances, [[1, 2], [1, 3], [1, 6], [0, 1]])

    def test_bad_chances(self):
        for chances in BAD_CHANCES:
            for call, rest in [
                (chance_sum, ("..", "qq")), (long_chance, ("..", "qq")), (sheet_chances, ("..", 0)),
                (resting_chances, ("..",)), (after_press, ((),)),
            ]:
                with self.assertRaises(BadChances, msg=chances):
                    call(STOCK, chances, *rest)
        # No chances of the empty stock have the sum 1.
        for chances in [(), ((1, 1),)]:
            with self.assertRaises(BadChances):
                chance_sum(Stock(1, ()), chances, "a", "a")
            with self.assertRaises(BadChances):
                sheet_chances(Stock(1, ()), chances, "a", 0)

    def test_against_all_rows(self):
        for seed in range(40):
            pairs, chances = random_pairs(seed, 2, 3), random_chances(seed, 3)
            random = Random(seed)
            for start, seen in [("zz", "ab"), ("-a", random_layer(random, 2, "-ab")), ("az", "a-"), ("--", "b.")]:
                total = chance_sum(Stock(2, pairs), chances, start, seen)
                for n in range(5):
                    wanted = sum(c for row, c in rows_of("xyz", chances, n) if leads(pairs, start, seen, row))
                    self.assertEqual(total(n), pair_of(Fraction(wanted)))
                self.check_limit(total, long_chance(Stock(2, pairs), chances, start, seen))

    def check_limit(self, total, limit):
        self.assertEqual(limit, long_run(total))
        for base, coefficient in total:
            self.assertTrue(0 <= Fraction(*base) <= 1)
        # The chance comes near to the limit.
        self.assertLess(abs(Fraction(*total(200)) - Fraction(*limit)), Fraction(1, 10 ** 9))

    def test_many_bases(self):
        stock = Stock(8, [(f"n{k}", "-" * k + "a" + "-" * (7 - k)) for k in range(8)])
        chances = [pair_of(Fraction(2 ** k, 255)) for k in range(8)]
        total = chance_sum(stock, chances, "." * 8, "a" * 8)
        self.assertEqual(len(total), 256)
        self.assertEqual([total(n) for n in range(8)], [(0, 1)] * 8)
        self.assertEqual(long_run(total), (1, 1))


class SheetChancesTest(unittest.TestCase):
    def test_ordinary(self):
        self.assertEqual(sheet_chances(STOCK, CHANCES, "..", 0), (("..", (1, 1)),))
        self.assertEqual(sheet_chances(STOCK, CHANCES, "..", 1), ((".b", (1, 3)), ("a.", (1, 2)), ("cc", (1, 6))))
        self.assertEqual(sheet_chances(n=2, start="..", chances=CHANCES, stock=STOCK), (
            (".b", (1, 9)), ("a.", (1, 4)), ("ab", (1, 3)), ("ac", (1, 12)), ("cb", (1, 18)), ("cc", (1, 6))))
        self.assertEqual(sheet_chances(STOCK, ((0, 1), (0, 1), (0, 1), (1, 1)), "..", 8), (("a.", (1, 1)),))

    def test_resting(self):
        self.assertEqual(resting_chances(STOCK, CHANCES, ".."), (
            ("ab", (7, 12)), ("ac", (1, 6)), ("cb", (1, 12)), ("cc", (1, 6))))

    def test_resting_with_chances_of_zero(self):
        chances = [(1, 2), (1, 2), (0, 1), (0, 1)]
        self.assertEqual(resting_chances(start="qq", chances=chances, stock=STOCK), (("ab", (1, 1)),))
        self.assertEqual(resting_chances(STOCK, [(0, 1), (1, 1), (0, 1), (0, 1)], "qq"), (("qb", (1, 1)),))

    def test_after_press(self):
        weights = [["cc", [1, 2]], ["ab", [-1, 2]]]
        self.assertEqual(after_press(STOCK, CHANCES, weights), (
            ("ab", (-5, 12)), ("ac", (1, 4)), ("cb", (1, 6))))
        self.assertEqual(weights, [["cc", [1, 2]], ["ab", [-1, 2]]])
        self.assertEqual(after_press(STOCK, CHANCES, ()), ())
        self.assertEqual(after_press(weights=[("..", (0, 1))], chances=CHANCES, stock=STOCK), ())
        self.assertEqual(after_press(STOCK, CHANCES, [("ab", (1, 1)), (".b", (-1, 1))]), (
            (".b", (-1, 3)), ("ab", (1, 3))))

    def test_against_all_rows(self):
        for seed in range(40):
            pairs, chances = random_pairs(seed, 3, 3), random_chances(seed, 3)
            stock = Stock(3, pairs)
            for n in range(5):
                wanted = {}
                for row, chance in rows_of("xyz", chances, n):
                    sheet = press_row(pairs, "zzz", row)
                    wanted[sheet] = wanted.get(sheet, 0) + chance
                told = tuple((sheet, pair_of(wanted[sheet])) for sheet in sorted(wanted) if wanted[sheet] > 0)
                self.assertEqual(sheet_chances(stock, chances, "zzz", n), told)
                self.assertEqual(after_press(stock, chances, told), sheet_chances(stock, chances, "zzz", n + 1))

    def test_resting_against_the_limits(self):
        for seed in range(60):
            pairs, chances = random_pairs(seed, 3, 4), random_chances(seed, 4)
            stock = Stock(3, pairs)
            for start in ["zzz", "aab"]:
                limits = [(sheet, long_chance(stock, chances, start, sheet))
                          for sheet in sorted(reachable(pairs, [start]))]
                resting = resting_chances(stock, chances, start)
                self.assertEqual(resting, tuple(pair for pair in limits if pair[1] != (0, 1)))
                self.assertEqual(after_press(stock, chances, resting), resting)
                self.assertEqual(sum(Fraction(*chance) for sheet, chance in resting), 1)

    def test_many_sheets(self):
        stock = Stock(8, [(f"n{k}", "-" * k + "a" + "-" * (7 - k)) for k in range(8)])
        chances = [(1, 8)] * 8
        self.assertEqual(len(sheet_chances(stock, chances, "." * 8, 8)), 255)
        self.assertEqual(resting_chances(stock, chances, "." * 8), (("a" * 8, (1, 1)),))
