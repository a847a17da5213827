"""Orders: rows that press each stamp of a stock once."""

from stampsheets.layers import agree
from stampsheets.peels import peeled
from stampsheets.topsets import names_without, top_sets


def left_of_all(stock, seen):
    """Return what is left of the layer at the cells that no stamp covers."""
    left = seen
    for _, stamp in stock:
        left = peeled(left, stamp)
    return left


def all_orders(stock, start, seen):
    """Yield all orders that lead from `start` to `seen`, in the order of rows."""
    names = stock.names
    tops = {chosen: True for chosen in top_sets(stock, seen)}
    if names in tops and agree(start, left_of_all(stock, seen)):
        row = ()
        yield from orders_from(tops, names, row)


def orders_from(tops, rest, row):
    """Yield all orders that begin with the row and go on with the rest, which is a top set.

    A name can come next if the names behind it are a top set, too: then they can
    be peeled off before it, and it lies on top of what they leave.
    """
    if len(rest) == 0:
        yield row
        return
    for name in rest:
        behind = names_without(rest, name)
        if behind in tops:
            longer = row + (name,)
            yield from orders_from(tops, behind, longer)


def order_count(stock, start, seen):
    """Return the number of all orders that lead from `start` to `seen`."""
    if not agree(start, left_of_all(stock, seen)):
        return 0
    counts = {(): 1}
    for names in top_sets(stock, seen)[1:]:
        counts[names] = sum([counts.get(names_without(names, name), 0) for name in names])
    return counts.get(stock.names, 0)
