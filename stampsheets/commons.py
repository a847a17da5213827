"""What all rows that lead from one layer to another have in common."""

from stampsheets.makings import making
from stampsheets.peels import on_top, peeling


def sure_uses(stock, start, seen):
    """Return the names that every row presses, or None if no row leads there."""
    if not making(stock, start, seen).made:
        return None
    return tuple([
        name for name in stock.names
        if not making(stock.without((name,)), start, seen).made
    ])


def possible_uses(stock, start, seen):
    """Return the names that some row presses, or None if no row leads there."""
    if not making(stock, start, seen).made:
        return None
    # What lies on top at any moment still does at the end, and there it can be peeled off.
    return on_top(stock, peeling(stock, seen).left)


def sure_pairs(stock, start, seen):
    """Return the pairs of names of which the first is over the second in every row, or None."""
    sure = sure_uses(stock, start, seen)
    if sure is None:
        return None
    return tuple([
        (one, two) for one in sure for two in names_below(stock, seen, one) if two != one
    ])


def names_below(stock, seen, one):
    """Return the names that cannot be peeled off before the first peeling of `one`."""
    above = on_top(stock, peeling(stock.without((one,)), seen).left)
    return [name for name in stock.names if name not in above]
