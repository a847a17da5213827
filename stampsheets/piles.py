"""Piles of sheets, and stamps that go through several sheets."""

from stampsheets.layers import empty_layer, press
from stampsheets.stocks import Stock


def pile_stamp(stamp, strength, depth):
    """Return the layer of a pile that the stamp makes if it is pressed with this strength."""
    return stamp * strength + empty_layer(len(stamp)) * (depth - strength)


def pile_stock(stock, depth):
    """Return the stock for a pile of so many sheets."""
    return Stock(stock.size * depth, [
        (name + "x" + str(strength), pile_stamp(stamp, strength, depth))
        for name, stamp in stock for strength in range(1, depth + 1)
    ])


def pile_layer(layers):
    """Return the layer of a pile with these sheets, the uppermost first."""
    return "".join(layers)


def pile_parts(layer, depth):
    """Return the layers of the sheets of a pile, the uppermost first."""
    size = len(layer) // depth
    return tuple([layer[size * number:size * (number + 1)] for number in range(depth)])


def pile_sheets(stock, sheets, row):
    """Return the sheets of a pile after presses with the given strengths."""
    made = tuple(sheets)
    for name, strength in row:
        stamp = stock.stamp(name)
        made = tuple([press(sheet, stamp) for sheet in made[:strength]]) + made[strength:]
    return made
