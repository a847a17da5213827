"""Stamps that break fast sets, and sets of names that no explanation of a box avoids."""

from stampsheets.boxes import explains
from stampsheets.fastness import covers_any, differs_at
from stampsheets.topsets import least_sets, name_sets


def breakers(stock, seen, chosen):
    """Return the names of the stamps that cover some chosen cell and differ from the layer at none."""
    return tuple([
        name for name, stamp in stock
        if covers_any(stamp, chosen) and not differs_at(stamp, seen, chosen)
    ])


def is_hurdle(box, names):
    """Return True if every explaining set has one of the names, otherwise False."""
    return not explains(box, box.stock.without(names).names)


def least_hurdles(box):
    """Return all hurdles of which no other hurdle is a part, in the order of sets."""
    return least_sets([names for names in name_sets(box.stock) if is_hurdle(box, names)])
