"""Prices of stamps, what rows cost, and the cheapest rows."""

from stampsheets.errors import BadPrices
from stampsheets.freeing import is_bound, layer_ways
from stampsheets.layers import agree
from stampsheets.stocks import checked_names
from stampsheets.ways import cheapest_row, least_costs


class Cheapest:
    """The least cost of a row, the first row that costs it, and a table that shows it."""

    def __init__(self, cost, row, table):
        self.cost = cost
        self.row = row
        self.table = table


def prices_by_name(stock, prices):
    """Return the price of each name, or raise an error if there are not as many prices as stamps."""
    if len(prices) != len(stock):
        raise BadPrices()
    return dict(zip(stock.names, prices))


def row_cost(stock, prices, row):
    """Return the sum of the prices of all presses of the row."""
    price_of = prices_by_name(stock, prices)
    return sum([price_of[name] for name in checked_names(stock, row)])


def price_order(stock, prices):
    """Return the names in ascending order of their prices."""
    price_of = prices_by_name(stock, prices)
    return tuple(sorted(stock.names, key=lambda name: price_of[name]))


def ends_among(layers, start):
    """Return those of the layers that agree with `start`."""
    return [left for left in layers if agree(left, start)]


def cheapest(stock, prices, start, seen):
    """Return the `Cheapest` that tells what it costs to lead from `start` to `seen`."""
    price_of = prices_by_name(stock, prices)
    levels, moves = layer_ways(stock, seen)
    least = least_costs(seen, moves, price_of)
    ends = ends_among(list(moves), start)
    cost = min([least[end][0] for end in ends], default=None)
    row = cheapest_row(stock.names, moves, price_of, least, ends)
    return Cheapest(cost, row, tuple([(left, least[left][0]) for level in levels for left in level]))


def cost_between(stock, price_of, start, seen):
    """Return the least cost of a row that leads from `start` to `seen`, or None."""
    _, moves = layer_ways(stock, seen)
    least = least_costs(seen, moves, price_of)
    return min([least[end][0] for end in ends_among(list(moves), start)], default=None)


def is_cost_table(stock, prices, start, seen, least, table):
    """Return True if the table bounds the costs from below by `least`, otherwise False."""
    return is_bound(stock, prices_by_name(stock, prices), start, seen, least, table)
