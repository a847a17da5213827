"""Whether two stocks can make the same of every sheet."""

from stampsheets.inners import stamp_making
from stampsheets.layers import DOT, MARKS
from stampsheets.stocks import check_sizes


class Comparison:
    """What two stocks can make of each other's stamps."""

    def __init__(self, word, rows, other_rows, missing, other_missing, sheet):
        self.word = word
        self.rows = rows
        self.other_rows = other_rows
        self.missing = missing
        self.other_missing = other_missing
        self.sheet = sheet


def strange_mark(signs):
    """Return the last of all marks that is not among the signs."""
    for mark in reversed(MARKS):
        if mark not in signs:
            return mark
    return DOT


def strange_sheet(one, two):
    """Return a sheet that has no mark of any stamp of the stocks at the same cell."""
    check_sizes(one, two)
    stamps = [stamp for name, stamp in one.stamps + two.stamps]
    return "".join([strange_mark([layer[cell] for layer in stamps]) for cell in range(one.size)])


def making_rows(stock, other):
    """Return for each stamp of the stock a row by which the other stock makes it, or None."""
    return tuple([stamp_making(other, stamp).row for name, stamp in stock])


def first_missing(stock, rows):
    """Return the first name of the stock that has no row, or None."""
    for name, row in zip(stock.names, rows):
        if row is None:
            return name
    return None


def compared_word(missing, other_missing):
    """Return the word of a comparison in which these names are missing."""
    if missing is None:
        return "alike" if other_missing is None else "inside"
    return "around" if other_missing is None else "apart"


def compare_stocks(one, two):
    """Return the `Comparison` of the two stocks."""
    sheet = strange_sheet(one, two)
    rows = making_rows(one, two)
    other_rows = making_rows(two, one)
    missing = first_missing(one, rows)
    other_missing = first_missing(two, other_rows)
    word = compared_word(missing, other_missing)
    return Comparison(word, rows, other_rows, missing, other_missing, None if word == "alike" else sheet)
