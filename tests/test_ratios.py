"""Point 61: ratios."""

import unittest
from fractions import Fraction

from stampsheets.ratios import divided, is_ratio, less, minus, plus, power, ratio, times
from stampsheets.stocks import Stock
from tests.chancecases import pair_of

SOME = sorted({Fraction(top, bottom) for top in range(-6, 7) for bottom in range(1, 7)})


class RatiosTest(unittest.TestCase):
    def test_is_ratio(self):
        for value in [(0, 1), (1, 1), (-1, 1), (3, 7), [-3, 7], (10 ** 40, 3), [5, 1]]:
            self.assertIs(is_ratio(value), True, value)
        for value in [
            (0, 2), (2, 4), (-2, 4), (6, 3), (1, 0), (0, 0), (1, -2), (-1, -1), (1,), (1, 2, 3), (), [], (True, 1),
            (1, True), (False, 1), ("1", 2), (1, "2"), (1, None), ((1,), 2), (1.0, 2), "12", b"12", 3, None, True,
            {1: 2, 3: 4}, {1, 2}, Stock(1, ()), Stock(1, [("x", "a"), ("y", "b")]), Fraction(1, 2), range(1, 3),
        ]:
            self.assertIs(is_ratio(value), False, value)
        self.assertIs(is_ratio(value=(1, 2)), True)

    def test_ratio(self):
        self.assertEqual(ratio(6, 4), (3, 2))
        self.assertEqual(ratio(-6, 4), (-3, 2))
        self.assertEqual(ratio(6, -4), (-3, 2))
        self.assertEqual(ratio(-6, -4), (3, 2))
        self.assertEqual(ratio(0, -7), (0, 1))
        self.assertEqual(ratio(bottom=-1, top=5), (-5, 1))
        self.assertEqual(ratio(10 ** 50, 10 ** 49), (10, 1))

    def test_all_small(self):
        for one in SOME:
            for two in SOME:
                first, second = pair_of(one), pair_of(two)
                self.assertEqual(plus(first, second), pair_of(one + two))
                self.assertEqual(minus(first, second), pair_of(one - two))
                self.assertEqual(times(first, second), pair_of(one * two))
                self.assertIs(less(first, second), one < two)
                if two != 0:
                    self.assertEqual(divided(first, second), pair_of(one / two))
                    self.assertEqual(ratio(first[0], second[0]), pair_of(Fraction(first[0], second[0])))

    def test_lists_and_names(self):
        one, two = [1, 2], [-2, 3]
        for function, wanted in [(plus, (-1, 6)), (minus, (7, 6)), (times, (-1, 3)), (divided, (-3, 4))]:
            self.assertEqual(function(one, two), wanted)
            self.assertEqual(function(two=two, one=one), wanted)
            self.assertIsInstance(function(one, two), tuple)
        self.assertIs(less(two=[1, 2], one=[-2, 3]), True)
        self.assertIs(less([1, 2], (1, 2)), False)
        self.assertEqual(power(count=2, one=[-2, 3]), (4, 9))

    def test_power(self):
        for one in SOME:
            for count in (0, 1, 2, 3, 7):
                self.assertEqual(power(pair_of(one), count), pair_of(one ** count))
        self.assertEqual(power((0, 1), 0), (1, 1))
        self.assertEqual(power((0, 1), 200), (0, 1))
        self.assertEqual(power((-3, 2), 200), (3 ** 200, 2 ** 200))
        self.assertEqual(power((-3, 2), 199), (-3 ** 199, 2 ** 199))
