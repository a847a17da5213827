"""Which stamp comes after which in all orders, and the places that a stamp may have."""

from stampsheets.layers import agree
from stampsheets.orders import left_of_all
from stampsheets.stocks import checked_names
from stampsheets.topsets import least_top_sets, stuck_names


def has_order(stock, start, seen):
    """Return True if some order leads from `start` to `seen`, otherwise False."""
    return len(stuck_names(stock, seen)) == 0 and agree(start, left_of_all(stock, seen))


def stuck_without(stock, seen, name):
    """Return the names that cannot be peeled off as long as this one is not."""
    return stuck_names(stock.without((name,)), seen)


def over_pairs(stock, start, seen):
    """Return the pairs of names of which the first comes after the second in every order, or None."""
    if not has_order(stock, start, seen):
        return None
    return tuple([(one, two) for one in stock.names for two in stuck_without(stock, seen, one)])


def place_range(stock, start, seen, name):
    """Return the least and the greatest place of the name in the orders that lead there, or None."""
    checked_names(stock, (name,))
    if not has_order(stock, start, seen):
        return None
    # What is peeled off before the name stands behind it in the order.
    fewest = len(least_top_sets(stock, seen, name)[0])
    return (len(stuck_without(stock, seen, name)), len(stock) - fewest)
