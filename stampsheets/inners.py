"""Which stamps a stock makes, by which row, or why not."""

from stampsheets.fastness import is_fast
from stampsheets.layers import cells_of, empty_layer
from stampsheets.peels import peeled, peeling


class StampMaking:
    """The answer whether a stock makes a stamp, with a row or a refusal."""

    def __init__(self, made, row, cells):
        self.made = made
        self.row = row
        self.cells = cells


def inner_stock(stock, stamp):
    """Return the stock of those stamps that cover only cells which the stamp covers."""
    nothing = empty_layer(stock.size)
    return stock.only([name for name, inner in stock if peeled(inner, stamp) == nothing])


def stamp_making(stock, stamp):
    """Return the `StampMaking` that tells whether the stock makes the stamp."""
    end = peeling(inner_stock(stock, stamp), stamp)
    cells = cells_of(end.left)
    if len(cells) > 0:
        return StampMaking(False, None, cells)
    return StampMaking(True, end.order[::-1], ())


def makes_all(stock, stamps):
    """Return True if the stock makes each of the stamps, otherwise False."""
    return all([stamp_making(stock, stamp).made for stamp in stamps])


def is_stamp_refusal(stock, stamp, chosen):
    """Return True if the chosen cells show that the stock does not make the stamp."""
    return len(chosen) > 0 and is_fast(inner_stock(stock, stamp), stamp, chosen)
