"""Stocks drawn on grids: turned, mirrored, and what leaves them the same."""

from stampsheets.grids import columns, grid_layer, grid_rows, mirrored, turned
from stampsheets.stocks import Stock


def turned_stock(stock, width):
    """Return the stock with its stamps turned by a quarter to the right."""
    return Stock(stock.size, [(name, turned(stamp, width)) for name, stamp in stock])


def mirrored_stock(stock, width):
    """Return the stock with left and right of its stamps exchanged."""
    return Stock(stock.size, [(name, mirrored(stamp, width)) for name, stamp in stock])


def image(word, layer, width):
    """Return the layer after the change that the word names."""
    if word == "half":
        return layer[::-1]
    if word == "mirror":
        return mirrored(layer, width)
    if word == "flip":
        return grid_layer(grid_rows(layer, width)[::-1])
    if word == "quarter":
        return turned(layer, width)
    return grid_layer(columns(grid_rows(layer, width)))


def stays_the_same(stock, word, width):
    """Return True if the set of the stamps is the same after the change that the word names."""
    stamps = [stamp for name, stamp in stock]
    return set(stamps) == set([image(word, stamp, width) for stamp in stamps])


def grid_symmetries(stock, width):
    """Return the words for the changes that leave the set of the stamps the same."""
    words = ("half", "mirror", "flip")
    if width * width == stock.size:
        words = words + ("quarter", "diagonal")
    return tuple([word for word in words if stays_the_same(stock, word, width)])
