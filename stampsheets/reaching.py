"""Whether every sheet of some marks can be made from every sheet."""

from stampsheets.fastness import fast_cells
from stampsheets.layers import MARKS


def sheets_of(size, marks):
    """Return all sheets of these marks, in the order of layers."""
    in_order = [mark for mark in MARKS if mark in marks]
    sheets = [""]
    for _ in range(size):
        sheets = [sheet + mark for sheet in sheets for mark in in_order]
    return sheets


def first_stuck(stock, marks):
    """Return the first sheet of these marks with a fast cell, or None if there is none."""
    for sheet in sheets_of(stock.size, marks):
        if len(fast_cells(stock, sheet)) > 0:
            return sheet
    return None
