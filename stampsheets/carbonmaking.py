"""What the carbon can show of the rows that lead from one layer to another."""

from stampsheets.carbons import carbon_layer, carbon_pairs, carbon_stock, pressed_pairs
from stampsheets.layers import agree
from stampsheets.makings import making
from stampsheets.peels import on_top, peeling
from stampsheets.topsets import name_sets


def carbon_making(stock, start, seen, pairs):
    """Return the `Making` for rows from `start` to `seen` whose carbon shows exactly these pairs."""
    return making(carbon_stock(stock), carbon_layer(stock, start, ()), carbon_layer(stock, seen, pairs))


def are_all_used(stock, start, seen):
    """Return True if some row that leads from `start` to `seen` presses every stamp of the stock."""
    # What lies on top at the end of the peeling can be peeled off there once more.
    left = peeling(stock, seen).left
    return agree(start, left) and on_top(stock, left) == stock.names


def carbon_sets(stock, start, seen):
    """Return all sets of pairs that the carbon can show after a row that leads from `start` to `seen`."""
    every = carbon_pairs(stock)
    found = {
        tuple([every.index(pair) for pair in pressed_pairs(stock, names)]): True
        for names in name_sets(stock) if are_all_used(stock.only(names), start, seen)
    }
    in_order = sorted(list(found), key=lambda numbers: (len(numbers), numbers))
    return tuple([tuple([every[number] for number in numbers]) for numbers in in_order])
