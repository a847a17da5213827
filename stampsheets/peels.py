"""Peeling: looking at a row from its last press backwards."""

from stampsheets.layers import DASH, agree


class Peeling:
    """What is left of a layer when everything that lies on top was peeled off."""

    def __init__(self, seen, order, left):
        self.seen = seen
        self.order = order
        self.left = left


def peeled(left, stamp):
    """Return the layer with the cells of the stamp freed."""
    return "".join([sign if above == DASH else DASH for sign, above in zip(left, stamp)])


def on_top(stock, left):
    """Return the names of all stamps that lie on top of the layer."""
    return tuple([name for name, stamp in stock if agree(left, stamp)])


def first_to_peel(stock, left):
    """Return the first name whose stamp lies on top and covers a mark, or None."""
    for name, stamp in stock:
        if agree(left, stamp) and peeled(left, stamp) != left:
            return name
    return None


def peeling(stock, seen):
    """Return the peeling of the layer by the whole stock."""
    left = seen
    order = []
    name = first_to_peel(stock, left)
    while name is not None:
        order.append(name)
        left = peeled(left, stock.stamp(name))
        name = first_to_peel(stock, left)
    return Peeling(seen, tuple(order), left)
