"""The net stamps of all rows of a stock."""

from stampsheets.inners import stamp_making
from stampsheets.layers import empty_layer, layer_order, press
from stampsheets.stocks import check_sizes
from stampsheets.ways import spread


def presses_of(pairs, layer):
    """Return the pairs of each name and the layer that its press makes."""
    return tuple([(name, press(layer, stamp)) for name, stamp in pairs])


def net_stamps(stock):
    """Return the net stamps of all rows that are not empty, in the order of layers."""
    nothing = empty_layer(stock.size)
    _, moves = spread(nothing, lambda layer: presses_of(stock, layer))
    return tuple(sorted([layer for layer in moves if layer != nothing], key=layer_order))


def common_stamps(one, two):
    """Return the stamps that both stocks make, in the order of layers."""
    check_sizes(one, two)
    return tuple([stamp for stamp in net_stamps(one) if stamp_making(two, stamp).made])


def net_table(stock):
    """Return which net stamp, by its number, each press makes of each net stamp."""
    layers = net_stamps(stock)
    numbers = {layer: number for number, layer in enumerate(layers)}
    return tuple([
        (numbers[layer], name, numbers[after])
        for layer in layers for name, after in presses_of(stock, layer)
    ])
