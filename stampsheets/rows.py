"""Rows of presses and what they do to layers."""

from stampsheets.layers import DASH, DOT, cells_of, empty_layer, press
from stampsheets.stocks import checked_names


def pressed(stock, layer, row):
    """Return the layer after all presses of the row, one after the other."""
    for name in checked_names(stock, row):
        layer = press(layer, stock.stamp(name))
    return layer


def net_stamp(stock, row):
    """Return the layer that does the same to every sheet as the row."""
    return pressed(stock, empty_layer(stock.size), row)


def stages(stock, layer, row):
    """Yield the layer, and then the layer after each press."""
    names = checked_names(stock, row)
    yield layer
    for name in names:
        layer = press(layer, stock.stamp(name))
        yield layer


def last_covers(stock, row):
    """Return for each cell the place of the last press that covers it, or None."""
    places = [None] * stock.size
    for place, name in enumerate(checked_names(stock, row)):
        for cell in cells_of(stock.stamp(name)):
            places[cell] = place
    return tuple(places)


def seen_presses(stock, row):
    """Return the places of the presses that are the last to cover some cell."""
    covers = last_covers(stock, row)
    return tuple([place for place in range(len(row)) if place in covers])


def seen_row(stock, row):
    """Return the names of the presses that are the last to cover some cell."""
    return tuple([row[place] for place in seen_presses(stock, row)])


def parting_sheet(stock, one, two):
    """Return a sheet of which the two rows make two sheets, or None if they do the same."""
    first_net = net_stamp(stock, one)
    second_net = net_stamp(stock, two)
    for cell, (first, second) in enumerate(zip(first_net, second_net)):
        if first != second:
            mark = "a" if first in (DASH, DOT) and second in (DASH, DOT) else DOT
            return DOT * cell + mark + DOT * (stock.size - cell - 1)
    return None
