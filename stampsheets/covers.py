"""Which press is the last to cover a cell, and how long it takes to cover all of some cells."""

from stampsheets.chances import drawn_weights
from stampsheets.counting import fewest_marks_first, ways_sum, weights_behind
from stampsheets.layers import DASH, DOT, cells_of, empty_layer, kept_at
from stampsheets.peels import peeled
from stampsheets.powersums import PowerSum
from stampsheets.ratios import ONE, ZERO, minus, plus, ratio, times
from stampsheets.stocks import checked_names
from stampsheets.ways import spread


def top_sum(stock, chances, cell, name):
    """Return the power sum of the chance that the last press that covers the cell is of this name."""
    whole, weights = drawn_weights(stock, chances)
    covering = {one: weight for one, weight in weights.items() if stock.stamp(one)[cell] != DASH}
    total = sum(list(covering.values()))
    missed = ratio(whole - total, whole)
    if name is None:
        return PowerSum([(missed, ONE)])
    checked_names(stock, (name,))
    if name not in covering:
        return PowerSum(())
    share = ratio(covering[name], total)
    return PowerSum([(ONE, share), (missed, minus(ZERO, share))])


def cells_left(stock, names, chosen):
    """Return the layer with dots at the chosen cells, and the moves by which presses free them.

    A layer with dots stands for the set of the cells that are still uncovered.
    """
    first = kept_at(DOT * stock.size, chosen)
    pressed_ones = stock.only(names)
    _, moves = spread(first, lambda left: [(name, peeled(left, stamp)) for name, stamp in pressed_ones])
    return first, moves


def cover_sum(stock, chances, chosen):
    """Return the power sum of the chance that n presses cover all chosen cells."""
    whole, weights = drawn_weights(stock, chances)
    first, moves = cells_left(stock, list(weights), chosen)
    nothing = empty_layer(stock.size)
    worths = {left: 1 if left == nothing else 0 for left in moves}
    return ways_sum(first, moves, weights, whole, worths)


def waits_for(moves, weights, whole, nothing):
    """Return the mean number of presses from each set of uncovered cells until nothing is left."""
    waits = {nothing: ZERO}
    for left in fewest_marks_first(list(moves)):
        if left != nothing:
            behind = weights_behind(moves[left], weights)
            going = whole - behind.get(left, 0)
            wait = ratio(whole, going)
            for after, weight in behind.items():
                if after != left:
                    wait = plus(wait, times(waits[after], ratio(weight, going)))
            waits[left] = wait
    return waits


def wait_table(stock, chances, chosen):
    """Return the pairs of each set of cells that can still be uncovered and its mean wait."""
    whole, weights = drawn_weights(stock, chances)
    _, moves = cells_left(stock, list(weights), chosen)
    nothing = empty_layer(stock.size)
    if nothing not in moves:
        return ()
    waits = waits_for(moves, weights, whole, nothing)
    table = [(cells_of(left), waits[left]) for left in moves if left != nothing]
    return tuple(sorted(table, key=lambda pair: (-len(pair[0]), pair[0])))


def cover_wait(stock, chances, chosen):
    """Return the mean number of presses until all chosen cells are covered, or None."""
    table = wait_table(stock, chances, chosen)
    if len(chosen) == 0:
        return ZERO
    return table[0][1] if table else None
