"""Power sums: sums of coefficients times the n-th powers of bases."""

from stampsheets.ratios import ONE, ZERO, common_bottom, minus, plus, power, times
from stampsheets.tupling import as_tuples


def gathered(pairs):
    """Return the pairs in ascending order of the bases, equal bases added up, without zero coefficients."""
    coefficients = {}
    for base, coefficient in pairs:
        coefficients[base] = plus(coefficients.get(base, ZERO), coefficient)
    common = common_bottom([bottom for top, bottom in coefficients])
    bases = sorted([(top * (common // bottom), (top, bottom)) for top, bottom in coefficients])
    return tuple([(base, coefficients[base]) for _, base in bases if coefficients[base] != ZERO])


class PowerSum:
    """A sum of terms, each a coefficient times the n-th power of a base."""

    def __init__(self, terms):
        self.terms = gathered(as_tuples(terms))

    def __call__(self, n):
        value = ZERO
        for base, coefficient in self.terms:
            value = plus(value, times(coefficient, power(base, n)))
        return value

    def __len__(self):
        return len(self.terms)

    def __iter__(self):
        return iter(self.terms)

    def __eq__(self, other):
        return isinstance(other, PowerSum) and self.terms == other.terms

    def __add__(self, other):
        return PowerSum(self.terms + other.terms)

    def __sub__(self, other):
        negative = [(base, minus(ZERO, coefficient)) for base, coefficient in other.terms]
        return PowerSum(self.terms + tuple(negative))

    def __mul__(self, other):
        return PowerSum([
            (times(base, other_base), times(coefficient, factor))
            for base, coefficient in self.terms for other_base, factor in other.terms
        ])

    def shifted(self):
        """Return the power sum whose value at every n is the value of this one at n + 1."""
        return PowerSum([(base, times(base, coefficient)) for base, coefficient in self.terms])


def long_run(power_sum):
    """Return the coefficient of the base 1, or zero if there is none."""
    for base, coefficient in power_sum.terms:
        if base == ONE:
            return coefficient
    return ZERO
