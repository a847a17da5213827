"""Sheets side by side, and the parts of a stock that have no cell in common."""

from stampsheets.errors import NameTaken
from stampsheets.layers import cells_of, empty_layer
from stampsheets.stocks import Stock


def beside(one, two):
    """Return the stock for two sheets side by side."""
    for name in two.names:
        if name in one:
            raise NameTaken(name)
    behind, ahead = empty_layer(two.size), empty_layer(one.size)
    pairs = [(name, stamp + behind) for name, stamp in one]
    return Stock(one.size + two.size, pairs + [(name, ahead + stamp) for name, stamp in two])


def beside_layer(one, two):
    """Return the layer of both sheets side by side."""
    return one + two


def first_cells(stock):
    """Return for each cell the first cell of its group."""
    firsts = list(range(stock.size))
    for _, stamp in stock:
        joint = [firsts[cell] for cell in cells_of(stamp)]
        firsts = [min(joint) if first in joint else first for first in firsts]
    return firsts


def parts_of(stock):
    """Return the pairs of the cells and the names of each part of the stock."""
    firsts = first_cells(stock)
    groups = [
        tuple([cell for cell in range(stock.size) if firsts[cell] == first])
        for first in range(stock.size) if firsts[first] == first
    ]
    return tuple([
        (cells, tuple([name for name, stamp in stock if cells_of(stamp)[0] in cells])) for cells in groups
    ])


def at_cells(layer, cells):
    """Return the signs of the layer at these cells."""
    return "".join([layer[cell] for cell in cells])


def part_stock(stock, group):
    """Return the stock of the stamps of one part, restricted to its cells."""
    cells, names = parts_of(stock)[group]
    return Stock(len(cells), [(name, at_cells(stock.stamp(name), cells)) for name in names])


def part_layer(stock, layer, group):
    """Return the layer restricted to the cells of one part."""
    cells, _ = parts_of(stock)[group]
    return at_cells(layer, cells)
