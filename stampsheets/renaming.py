"""Other names for marks, and other places for cells."""

from stampsheets.stocks import Stock


def recoloured(layer, pairs):
    """Return the layer with the marks renamed."""
    renamed = {old: new for old, new in pairs}
    return "".join([renamed.get(sign, sign) for sign in layer])


def recoloured_stock(stock, pairs):
    """Return the stock with the marks of its stamps renamed."""
    return Stock(stock.size, [(name, recoloured(stamp, pairs)) for name, stamp in stock])


def moved(layer, cells):
    """Return the layer whose cell number k has what cell number `cells[k]` of the layer has."""
    return "".join([layer[cell] for cell in cells])


def moved_stock(stock, cells):
    """Return the stock with the cells of its stamps moved."""
    return Stock(stock.size, [(name, moved(stamp, cells)) for name, stamp in stock])
