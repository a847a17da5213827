"""Stamps that a stock does not need, and the least stocks that do the same."""

from stampsheets.inners import makes_all, stamp_making
from stampsheets.topsets import name_sets


def needless(stock, name):
    """Return True if the stock without this name makes its stamp, otherwise False."""
    rest = stock.without((name,))
    return stamp_making(rest, stock.stamp(name)).made


def trimmed(stock):
    """Return the stock without the stamps that the remaining ones make, the last ones left out first."""
    left = stock
    for name in reversed(stock.names):
        if needless(left, name):
            left = left.without((name,))
    return left


def least_stocks(stock):
    """Return the sets of as few names as possible whose stock is alike with the whole stock."""
    stamps = [stamp for name, stamp in stock]
    found = []
    for names in name_sets(stock):
        if found and len(names) > len(found[0]):
            break
        if makes_all(stock.only(names), stamps):
            found.append(names)
    return tuple(found)
