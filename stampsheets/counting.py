"""The number of rows of n presses that lead from one layer to another, for every n."""

from stampsheets.freeing import layer_ways
from stampsheets.layers import agree, cells_of
from stampsheets.powersums import PowerSum
from stampsheets.ratios import ZERO, minus, plus, ratio, times


def fewest_marks_first(layers):
    """Return the layers in an order in which those with fewer marks come first."""
    return sorted(layers, key=lambda layer: len(cells_of(layer)))


def weights_behind(moves, weights):
    """Return the sum of the weights of the names that lead to each layer."""
    behind = {}
    for name, after in moves.items():
        behind[after] = behind.get(after, 0) + weights[name]
    return behind


def layer_terms(left, behind, sums, worth):
    """Return the coefficient of each base in the weight of all ways of n moves from the layer.

    `behind` has the weights of the layers behind the moves, `sums` the terms of these
    layers but the layer itself, and `worth` is the value for no moves.
    """
    staying = behind.get(left, 0)
    terms = {}
    for after, weight in behind.items():
        if after != left:
            for base, coefficient in sums[after].items():
                # More names leave a layer with fewer marks as it is, so this base is greater.
                share = times(coefficient, ratio(weight, base - staying))
                terms[base] = plus(terms.get(base, ZERO), share)
    rest = ratio(worth, 1)
    for coefficient in terms.values():
        rest = minus(rest, coefficient)
    terms[staying] = rest
    return {base: coefficient for base, coefficient in terms.items() if coefficient != ZERO}


def ways_sum(first, moves, weights, whole, worths):
    """Return the power sum of the weight of all ways of n moves from the first layer.

    All weights are above zero and counted in parts of `whole`; a way weighs the product of
    the weights of its names, times the worth of the layer to which it leads. Each
    move takes some marks from a layer, or none and leaves it as it is.
    """
    sums = {}
    for left in fewest_marks_first(list(moves)):
        sums[left] = layer_terms(left, weights_behind(moves[left], weights), sums, worths[left])
    return PowerSum([(ratio(base, whole), coefficient) for base, coefficient in sums[first].items()])


def leading_sum(stock, weights, whole, start, seen):
    """Return the power sum of the weight of all rows of n presses that lead from `start` to `seen`."""
    _, moves = layer_ways(stock, seen)
    worths = {left: 1 if agree(left, start) else 0 for left in moves}
    return ways_sum(seen, moves, weights, whole, worths)


def row_sum(stock, start, seen):
    """Return the power sum of the number of rows of n presses that lead from `start` to `seen`."""
    return leading_sum(stock, {name: 1 for name in stock.names}, 1, start, seen)
