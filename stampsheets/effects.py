"""Which rows do the same to every sheet."""

from stampsheets.freeing import layer_ways
from stampsheets.inners import inner_stock
from stampsheets.layers import empty_layer
from stampsheets.rows import net_stamp
from stampsheets.ways import first_row


def least_same_row(stock, row):
    """Return the first row, in the order of rows, that does the same to every sheet as the row."""
    net = net_stamp(stock, row)
    inner = inner_stock(stock, net)
    levels, moves = layer_ways(inner, net)
    return first_row(inner.names, levels, moves, {empty_layer(stock.size): True})


def commute(stock, one, two):
    """Return True if the two names do the same to every sheet in either order."""
    return net_stamp(stock, (one, two)) == net_stamp(stock, (two, one))
