"""Freed layers: what is left of a layer after stamps were peeled off."""

from stampsheets.layers import agree
from stampsheets.peels import on_top, peeled
from stampsheets.tupling import as_tuples
from stampsheets.ways import spread


def peels_of(stock, left):
    """Return the pairs of each name that lies on top and the layer that its peeling leaves."""
    return tuple([(name, peeled(left, stock.stamp(name))) for name in on_top(stock, left)])


def layer_ways(stock, seen):
    """Return the levels of the freed layers, and the moves of each."""
    return spread(seen, lambda left: peels_of(stock, left))


def freed_layers(stock, seen):
    """Return all freed layers, those that fewer peelings reach first."""
    return tuple([left for left, steps in step_table(stock, seen)])


def step_table(stock, seen):
    """Return the pairs of each freed layer and the least number of peelings that reach it."""
    levels, _ = layer_ways(stock, seen)
    return tuple([(left, steps) for steps, level in enumerate(levels) for left in level])


def least_numbers(table):
    """Return the least number with which each layer stands in a table of pairs."""
    least = {}
    for left, number in table:
        least[left] = min(number, least.get(left, number))
    return least


def is_bound(stock, price_of, start, seen, least, table):
    """Return True if the table bounds what all rows cost from below by `least`, otherwise False."""
    # Of several pairs with one layer, the one with the least number asks for the most.
    numbers = least_numbers(as_tuples(table))
    if seen not in numbers or numbers[seen] > 0:
        return False
    for left, number in numbers.items():
        if agree(left, start) and number < least:
            return False
        for name, after in peels_of(stock, left):
            if after not in numbers or numbers[after] > number + price_of[name]:
                return False
    return True


def is_step_table(stock, start, seen, least, table):
    """Return True if the table bounds the presses from below by `least`, otherwise False."""
    return is_bound(stock, {name: 1 for name in stock.names}, start, seen, least, table)
