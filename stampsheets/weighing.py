"""Weighing the marks that may stand at an unreadable cell."""

from stampsheets.layers import MARKS
from stampsheets.prices import cost_between, prices_by_name


def with_mark(seen, cell, mark):
    """Return the layer with this mark at the cell."""
    return seen[:cell] + mark + seen[cell + 1:]


def cost_of_marks(stock, price_of, start, seen, cell):
    """Return for each mark the least cost if it stands at the cell, or None."""
    told = [stamp[cell] for name, stamp in stock] + [start[cell]]
    known = [mark for mark in MARKS if mark in told]
    strange = [mark for mark in MARKS if mark not in told]
    costs = {mark: cost_between(stock, price_of, start, with_mark(seen, cell, mark)) for mark in known}
    if strange:
        # A mark that nothing has at the cell is as good as every other such mark.
        cost = cost_between(stock, price_of, start, with_mark(seen, cell, strange[0]))
        costs.update({mark: cost for mark in strange})
    return costs


def mark_costs(stock, prices, start, seen, cell):
    """Return the pairs of each mark that may stand at the cell and its least cost."""
    costs = cost_of_marks(stock, prices_by_name(stock, prices), start, seen, cell)
    return tuple([(mark, costs[mark]) for mark in MARKS if costs[mark] is not None])


def mark_margin(stock, prices, start, seen, cell):
    """Return the first of the cheapest marks and how much more all others cost, or None."""
    pairs = mark_costs(stock, prices, start, seen, cell)
    if len(pairs) == 0:
        return None
    mark, cost = sorted(pairs, key=lambda pair: pair[1])[0]
    others = [other for sign, other in pairs if sign != mark]
    return (mark, min(others) - cost if others else None)
