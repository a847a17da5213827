"""Point 62, and `long_run` of point 65: power sums."""

import unittest
from fractions import Fraction
from random import Random

from stampsheets.powersums import PowerSum, long_run
from tests.chancecases import pair_of, value_at

ONE, HALF, ZERO, THIRD = (1, 1), (1, 2), (0, 1), (1, 3)
SOME = PowerSum([(ONE, (2, 1)), (HALF, (-1, 3))])


def random_sum(seed):
    random = Random(seed)
    bases = [(0, 1), (1, 1), (-1, 1), (1, 2), (-1, 2), (2, 1), (2, 3)]
    return PowerSum([(random.choice(bases), random.choice([(1, 1), (-1, 1), (1, 2), (3, 1), (0, 1)]))
                     for _ in range(random.randrange(5))])


class PowerSumTest(unittest.TestCase):
    def test_terms(self):
        self.assertEqual(SOME.terms, ((HALF, (-1, 3)), (ONE, (2, 1))))
        self.assertEqual(PowerSum(()).terms, ())
        bases = [(-5, 1), (-1, 2), (-1, 3), (0, 1), (1, 3), (1, 2), (2, 3), (5, 7), (1, 1), (10, 1)]
        for order in (bases[::-1], bases[3:] + bases[:3]):
            terms = PowerSum([(base, ONE) for base in order]).terms
            self.assertEqual([base for base, coefficient in terms], bases)

    def test_equal_bases_and_zeros(self):
        self.assertEqual(PowerSum([(HALF, (1, 3)), (ONE, ONE), (HALF, (1, 6))]).terms, ((HALF, (1, 2)), (ONE, ONE)))
        self.assertEqual(PowerSum([(HALF, (1, 3)), (HALF, (-1, 3))]).terms, ())
        self.assertEqual(PowerSum([(HALF, ZERO), (ONE, ONE)]).terms, ((ONE, ONE),))
        # The base zero has the value of its coefficient at n = 0, so it is left out only if that is zero.
        self.assertEqual(PowerSum([(ZERO, ONE)]).terms, ((ZERO, ONE),))

    def test_lists_and_later_changes(self):
        terms = [[[1, 2], [1, 3]], [[0, 1], [1, 1]]]
        told = PowerSum(terms=terms)
        terms[0][1][0] = 7
        terms.pop()
        self.assertEqual(told.terms, ((ZERO, ONE), (HALF, THIRD)))
        self.assertIsInstance(told.terms[0], tuple)
        self.assertIsInstance(told.terms[0][0], tuple)
        self.assertIsInstance(told.terms[1][1], tuple)

    def test_values(self):
        self.assertEqual([SOME(n) for n in (0, 1, 2)], [(5, 3), (11, 6), (23, 12)])
        self.assertEqual(SOME(n=1), (11, 6))
        zero = PowerSum([(ZERO, (5, 1)), (ONE, ONE)])
        self.assertEqual([zero(n) for n in (0, 1, 200)], [(6, 1), ONE, ONE])
        self.assertEqual([PowerSum(())(n) for n in (0, 200)], [ZERO, ZERO])
        self.assertEqual(PowerSum([((-3, 2), (1, 3))])(200), (3 ** 199, 2 ** 200))

    def test_length_iteration_and_equality(self):
        self.assertEqual((len(SOME), len(PowerSum(()))), (2, 0))
        self.assertEqual(list(SOME), list(SOME.terms))
        self.assertIs(SOME == PowerSum([(HALF, (-1, 3)), (ONE, ONE), (ONE, ONE)]), True)
        self.assertIs(SOME == PowerSum([(HALF, (-1, 3))]), False)
        self.assertIs(SOME == PowerSum([(HALF, (-1, 3)), (ONE, ONE)]), False)
        for other in [SOME.terms, None, 0, "x"]:
            self.assertIs(SOME == other, False)
            self.assertIs(SOME != other, True)
        self.assertIs(PowerSum(()) == (), False)

    def test_operators(self):
        other = PowerSum([(HALF, (1, 3)), (ZERO, (2, 1))])
        self.assertEqual((SOME + other).terms, ((ZERO, (2, 1)), (ONE, (2, 1))))
        self.assertEqual((SOME - other).terms, ((ZERO, (-2, 1)), (HALF, (-2, 3)), (ONE, (2, 1))))
        self.assertEqual((SOME * other).terms, ((ZERO, (10, 3)), ((1, 4), (-1, 9)), (HALF, (2, 3))))
        self.assertEqual((SOME - SOME).terms, ())
        self.assertEqual(SOME * PowerSum(()), PowerSum(()))
        self.assertEqual(SOME * PowerSum([(ONE, ONE)]), SOME)
        self.assertEqual(SOME.terms, ((HALF, (-1, 3)), (ONE, (2, 1))))

    def test_shifted(self):
        self.assertEqual(SOME.shifted().terms, ((HALF, (-1, 6)), (ONE, (2, 1))))
        self.assertEqual(PowerSum([(ZERO, ONE), ((-2, 1), THIRD)]).shifted().terms, (((-2, 1), (-2, 3)),))
        self.assertEqual(PowerSum(()).shifted(), PowerSum(()))

    def test_long_run(self):
        self.assertEqual(long_run(SOME), (2, 1))
        self.assertEqual(long_run(PowerSum([(HALF, ONE), ((-1, 1), ONE), ((2, 1), ONE)])), ZERO)
        self.assertEqual(long_run(power_sum=PowerSum(())), ZERO)

    def test_values_of_sums_and_products(self):
        for seed in range(80):
            one, two = random_sum(seed), random_sum(seed + 1000)
            for n in (0, 1, 2, 5, 9):
                first, second = value_at(one.terms, n), value_at(two.terms, n)
                self.assertEqual(one(n), pair_of(first))
                self.assertEqual((one + two)(n), pair_of(first + second))
                self.assertEqual((one - two)(n), pair_of(first - second))
                self.assertEqual((one * two)(n), pair_of(first * second))
                self.assertEqual(one.shifted()(n), pair_of(value_at(one.terms, n + 1)))
            for told in (one, one + two, one - two, one * two, one.shifted()):
                bases = [Fraction(*base) for base, coefficient in told]
                self.assertEqual(bases, sorted(set(bases)))
                self.assertNotIn(ZERO, [coefficient for base, coefficient in told])
            same = all(one(n) == two(n) for n in range(12))
            self.assertIs(one == two, same)
