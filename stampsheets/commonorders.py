"""One order that explains several sheets at once."""

from stampsheets.layers import agree
from stampsheets.orders import left_of_all
from stampsheets.peels import peeled
from stampsheets.topsets import names_without


def first_on_all(stock, lefts, names):
    """Return the first of the names whose stamp lies on top of all layers, or None."""
    for name in names:
        if all([agree(left, stock.stamp(name)) for left in lefts]):
            return name
    return None


def stuck_jointly(stock, lefts, names):
    """Return those of the names that are left when each is peeled off all layers at once."""
    rest = names
    name = first_on_all(stock, lefts, rest)
    while name is not None:
        stamp = stock.stamp(name)
        lefts = [peeled(left, stamp) for left in lefts]
        rest = names_without(rest, name)
        name = first_on_all(stock, lefts, rest)
    return rest


def common_stuck(stock, pairs):
    """Return the names that cannot be peeled off all sheets of the pairs at once."""
    return stuck_jointly(stock, [seen for start, seen in pairs], stock.names)


def first_to_press(stock, layers, names):
    """Return the first of the names for which all others can be peeled off before it."""
    for name in names:
        if len(stuck_jointly(stock, layers, names_without(names, name))) == 0:
            return name
    return None


def common_order(stock, pairs):
    """Return the first order that leads from `start` to `seen` for every pair, or None."""
    if len(common_stuck(stock, pairs)) > 0:
        return None
    if not all([agree(start, left_of_all(stock, seen)) for start, seen in pairs]):
        return None
    layers = [seen for start, seen in pairs]
    row = ()
    rest = stock.names
    while len(rest) > 0:
        # If all names can be peeled off, then some name of them can be the last one.
        name = first_to_press(stock, layers, rest)
        row = row + (name,)
        rest = names_without(rest, name)
    return row
