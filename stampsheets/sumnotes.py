"""Rows and power sums written as text."""

from stampsheets.errors import BadNote
from stampsheets.powersums import PowerSum
from stampsheets.ratios import ratio
from stampsheets.stocks import DIGITS, checked_names

BEFORE_BASE = " * ("
BEHIND_BASE = ") ** n"
NO_TERMS = "0"


def format_row(row):
    """Return the text of the row."""
    return " ".join(row)


def parse_row(stock, text):
    """Return the row of which this is the text."""
    pieces = [] if text == "" else text.split(" ")
    if "" in pieces:
        raise BadNote(0)
    return checked_names(stock, pieces)


def ratio_text(told):
    """Return the text of a ratio."""
    top, bottom = told
    return str(top) if bottom == 1 else str(top) + "/" + str(bottom)


def format_power_sum(power_sum):
    """Return the text of the power sum."""
    if len(power_sum) == 0:
        return NO_TERMS
    return " + ".join([
        ratio_text(coefficient) + BEFORE_BASE + ratio_text(base) + BEHIND_BASE
        for base, coefficient in power_sum
    ])


def are_digits(text):
    """Return True if the text consists of digits, at least one."""
    return text != "" and all([sign in DIGITS for sign in text])


def ratio_told(text):
    """Return the ratio that the text tells, or raise an error."""
    is_negative = text[:1] == "-"
    top, stroke, below = (text[1:] if is_negative else text).partition("/")
    bottom = "1" if stroke == "" else below
    if not are_digits(top) or not are_digits(bottom) or int(bottom) == 0:
        raise BadNote(0)
    return ratio(-int(top) if is_negative else int(top), int(bottom))


def term_told(text):
    """Return the term that the text tells, or raise an error."""
    coefficient, _, rest = text.partition(BEFORE_BASE)
    base = rest.partition(BEHIND_BASE)[0]
    return (ratio_told(base), ratio_told(coefficient))


def parse_power_sum(text):
    """Return the power sum of which this is the text."""
    pieces = [] if text == NO_TERMS else text.split(" + ")
    power_sum = PowerSum([term_told(piece) for piece in pieces])
    # Whatever is not in its one written form is written in another way again.
    if format_power_sum(power_sum) != text:
        raise BadNote(0)
    return power_sum
