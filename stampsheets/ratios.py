"""Ratios: fractions as pairs of whole numbers in lowest terms."""

from math import gcd

from stampsheets.wholes import is_number

ZERO = (0, 1)
ONE = (1, 1)


def is_ratio(value):
    """Return True if the value is a ratio, otherwise False."""
    if not isinstance(value, (list, tuple)) or len(value) != 2:
        return False
    top, bottom = value
    if not is_number(top) or not is_number(bottom):
        return False
    return bottom >= 1 and gcd(top, bottom) == 1


def ratio(top, bottom):
    """Return the ratio of two whole numbers."""
    common = gcd(top, bottom)
    if bottom < 0:
        common = -common
    return (top // common, bottom // common)


def plus(one, two):
    """Return the sum of two ratios."""
    return ratio(one[0] * two[1] + two[0] * one[1], one[1] * two[1])


def minus(one, two):
    """Return the difference of two ratios."""
    return ratio(one[0] * two[1] - two[0] * one[1], one[1] * two[1])


def times(one, two):
    """Return the product of two ratios."""
    return ratio(one[0] * two[0], one[1] * two[1])


def divided(one, two):
    """Return the quotient of two ratios."""
    return ratio(one[0] * two[1], one[1] * two[0])


def less(one, two):
    """Return True if `one` is less than `two`, otherwise False."""
    return one[0] * two[1] < two[0] * one[1]


def power(one, count):
    """Return the product of so many factors `one`."""
    top, bottom = ONE
    for _ in range(count):
        top = top * one[0]
        bottom = bottom * one[1]
    return (top, bottom)


def common_bottom(bottoms):
    """Return the least number that all of these bottoms divide."""
    common = 1
    for bottom in bottoms:
        common = common // gcd(common, bottom) * bottom
    return common
