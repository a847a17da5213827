"""Carbons, which keep for every cell all marks that were ever pressed there."""

from stampsheets.layers import DASH, DOT, MARKS
from stampsheets.stocks import Stock
from stampsheets.tupling import as_tuples

KEPT = "a"


def pairs_of(size, stamps):
    """Return the pairs of a cell and a mark that some of the stamps have, in order."""
    return tuple([
        (cell, mark) for cell in range(size) for mark in MARKS
        if any([stamp[cell] == mark for stamp in stamps])
    ])


def carbon_pairs(stock):
    """Return all carbon pairs of the stock."""
    return pairs_of(stock.size, [stamp for name, stamp in stock])


def pressed_pairs(stock, row):
    """Return the carbon pairs that some press of the row has put there."""
    return pairs_of(stock.size, [stock.stamp(name) for name in row])


def carbon_signs(stock, pairs, other):
    """Return what a carbon with these pairs shows: for each other carbon pair the sign `other`."""
    return "".join([KEPT if pair in pairs else other for pair in carbon_pairs(stock)])


def carbon_stock(stock):
    """Return the stock for the sheet and its carbon together."""
    size = stock.size + len(carbon_pairs(stock))
    return Stock(size, [
        (name, stamp + carbon_signs(stock, pairs_of(stock.size, (stamp,)), DASH)) for name, stamp in stock
    ])


def carbon_layer(stock, layer, pairs):
    """Return the layer of the sheet and of a carbon with exactly these pairs."""
    # A dash would leave open whether the carbon has the pair; the dot says that it has not.
    return layer + carbon_signs(stock, as_tuples(pairs), DOT)
