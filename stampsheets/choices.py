"""The sets of names that explain a box."""

from stampsheets.boxes import explains
from stampsheets.prices import prices_by_name
from stampsheets.stocks import in_stock_order
from stampsheets.topsets import least_sets, name_sets


def explaining_sets(box):
    """Return all sets of names that explain the box, in the order of sets."""
    return [names for names in name_sets(box.stock) if explains(box, names)]


def least_choices(box):
    """Return all explaining sets of which no other explaining set is a part."""
    return least_sets(explaining_sets(box))


def needed_names(box):
    """Return the names that are in every explaining set, or None if there is none."""
    if not explains(box, box.stock.names):
        return None
    # A set that lacks the name explains nothing that all other names together do not.
    return tuple([
        name for name in box.stock.names
        if not explains(box, box.stock.without((name,)).names)
    ])


def useful_names(box):
    """Return the names that are in some least explaining set, or None if there is none."""
    choices = least_choices(box)
    if len(choices) == 0:
        return None
    return in_stock_order(box.stock, [name for names in choices for name in names])


def choice_count(box):
    """Return the number of explaining sets."""
    return len(explaining_sets(box))


def fewest_names(box):
    """Return the first explaining set in the order of sets, or None."""
    for names in name_sets(box.stock):
        if explains(box, names):
            return names
    return None


def cheapest_choice(box, prices):
    """Return the least cost of an explaining set and the first set that costs this, or None."""
    price_of = prices_by_name(box.stock, prices)
    best = None
    for names in explaining_sets(box):
        cost = sum([price_of[name] for name in names])
        if best is None or cost < best[0]:
            best = (cost, names)
    return best
