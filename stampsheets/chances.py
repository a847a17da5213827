"""The chances of what n presses make, if each stamp is drawn with a given chance."""

from stampsheets.counting import fewest_marks_first, leading_sum, weights_behind
from stampsheets.errors import BadChances
from stampsheets.layers import empty_layer, layer_order, press
from stampsheets.powersums import long_run
from stampsheets.ratios import ONE, ZERO, common_bottom, is_ratio, plus, ratio, times
from stampsheets.tupling import as_tuples
from stampsheets.ways import spread


def is_chance(value):
    """Return True if the value is a ratio from 0 to 1, otherwise False."""
    return is_ratio(value) and 0 <= value[0] <= value[1]


def drawn_weights(stock, chances):
    """Return a whole, and how many parts of it fall to each name that can be drawn.

    It raises an error if the values are no chances of the stock.
    """
    if len(chances) != len(stock) or not all([is_chance(chance) for chance in chances]):
        raise BadChances()
    whole = common_bottom([bottom for top, bottom in chances])
    weights = [top * (whole // bottom) for top, bottom in chances]
    if sum(weights) != whole:
        raise BadChances()
    return whole, {name: weight for name, weight in zip(stock.names, weights) if weight > 0}


def chance_sum(stock, chances, start, seen):
    """Return the power sum of the chance that the next n presses lead from `start` to `seen`."""
    whole, weights = drawn_weights(stock, chances)
    return leading_sum(stock.only(list(weights)), weights, whole, start, seen)


def long_chance(stock, chances, start, seen):
    """Return the limit of the chance that the next n presses lead from `start` to `seen`."""
    return long_run(chance_sum(stock, chances, start, seen))


def in_layer_order(chance_of):
    """Return the pairs of a dict from sheets to chances in the order of layers, those with zero left out."""
    sheets = sorted(list(chance_of), key=layer_order)
    return tuple([(sheet, chance_of[sheet]) for sheet in sheets if chance_of[sheet] != ZERO])


def after_press(stock, chances, weights):
    """Return the pairs of each sheet and its weight after one more press."""
    whole, parts = drawn_weights(stock, chances)
    after = {}
    for sheet, weight in as_tuples(weights):
        for name, part in parts.items():
            made = press(sheet, stock.stamp(name))
            after[made] = plus(after.get(made, ZERO), times(weight, ratio(part, whole)))
    return in_layer_order(after)


def sheet_chances(stock, chances, start, n):
    """Return the pairs of each sheet that n presses can make of `start` and its chance."""
    drawn_weights(stock, chances)
    pairs = ((start, ONE),)
    for _ in range(n):
        pairs = after_press(stock, chances, pairs)
    return pairs


def presses_beneath(stock, net):
    """Return the pairs of each name and the net stamp with one more press beneath all others."""
    return [(name, press(stamp, net)) for name, stamp in stock]


def resting_chances(stock, chances, start):
    """Return the pairs of each sheet and the limit of its chance, if that is above 0."""
    whole, weights = drawn_weights(stock, chances)
    drawn = stock.only(list(weights))
    nothing = empty_layer(stock.size)
    # Presses are read from the last one backwards: what is beneath all that
    # was read cannot change any more when every cell that can be covered is.
    _, moves = spread(nothing, lambda net: presses_beneath(drawn, net))
    reached = {nothing: ONE}
    resting = {}
    for net in fewest_marks_first(list(moves)):
        behind = weights_behind(moves[net], weights)
        going = whole - behind.get(net, 0)
        if going == 0:
            resting[press(start, net)] = reached[net]
        for after, weight in behind.items():
            if after != net:
                share = times(reached[net], ratio(weight, going))
                reached[after] = plus(reached.get(after, ZERO), share)
    return in_layer_order(resting)
