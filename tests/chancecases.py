"""Chances, and ratios as fractions, for tests."""

from fractions import Fraction
from itertools import product
from random import Random

# No chances of a stock with four stamps.
BAD_CHANCES = [
    (), ((1, 1),), ((1, 2), (1, 2)), ((1, 3),) * 3, ((1, 4),) * 5, ((1, 2), (1, 2), (0, 1), (0, 1), (0, 1)),
    ((2, 4), (1, 4), (1, 4), (0, 1)), ((1, 2), (1, 2), (0, 2), (0, 1)), ((3, 2), (-1, 2), (0, 1), (0, 1)),
    ((2, 1), (-1, 1), (0, 1), (0, 1)), ((1, 1), (-1, 2), (1, 2), (0, 1)), ((-1, -2), (1, 2), (0, 1), (0, 1)),
    ((1, 2), (1, 2), (0, 1), (0, 0)),
    ((1, 2), (1, 3), (0, 1), (0, 1)), ((1, 2), (1, 2), (1, 2), (0, 1)), ((0, 1),) * 4,
    ((1, 2), (1, 2), (0, 1), ()), ((1, 2), (1, 2), (0, 1), (0,)), ((1, 2), (1, 2), (0, 1), (0, 1, 1)),
    ((1, 2), (1, 2), (0, 1), ("0", 1)), ((True, 1), (0, 1), (0, 1), (0, 1)), ((1, True), (0, 1), (0, 1), (0, 1)),
    ([1, 2], [1, 2], [0, 1], [None, 1]), ((1, 2), (1, 2), (0, 1), ([0], [1])),
]


def pair_of(fraction):
    return (fraction.numerator, fraction.denominator)


def random_chances(seed, many):
    """Return chances for so many stamps, some of them perhaps zero, that depend on the seed alone."""
    random = Random(seed * 17 + 2)
    while True:
        parts = [random.choice([0, 1, 1, 2, 3]) for _ in range(many)]
        if sum(parts) > 0:
            return tuple(pair_of(Fraction(part, sum(parts))) for part in parts)


def rows_of(names, chances, n):
    """Return all rows of n presses with their chances, as fractions."""
    found = []
    for places in product(range(len(names)), repeat=n):
        chance = Fraction(1)
        for place in places:
            chance *= Fraction(*chances[place])
        found.append((tuple(names[place] for place in places), chance))
    return found


def value_at(terms, n):
    """Return the value of the terms of a power sum at n, as a fraction."""
    return sum((Fraction(*c) * Fraction(*b) ** n for b, c in terms), Fraction(0))
