"""Top sets: stamps that can be peeled off, each of them once."""

from stampsheets.fastness import subsets
from stampsheets.layers import agree
from stampsheets.peels import on_top, peeled
from stampsheets.stocks import checked_names, in_stock_order


def longer_sets(stock, level):
    """Return the top sets with one more name, and what each leaves of the layer."""
    longer = {}
    for names, left in level.items():
        for name in on_top(stock, left):
            if name not in names:
                longer[in_stock_order(stock, names + (name,))] = peeled(left, stock.stamp(name))
    return longer


def numbers_of(stock, names):
    """Return the numbers that the names have in the stock."""
    every = stock.names
    return tuple([every.index(name) for name in names])


def top_sets(stock, seen):
    """Return all top sets, smaller ones first, equally large ones ordered like rows."""
    found = []
    level = {(): seen}
    while level:
        found.extend(sorted(list(level), key=lambda names: numbers_of(stock, names)))
        level = longer_sets(stock, level)
    return tuple(found)


def first_on_top(stock, left, names):
    """Return the first of the names whose stamp lies on top, or None."""
    for name in names:
        if agree(left, stock.stamp(name)):
            return name
    return None


def peel_once(stock, seen, names):
    """Return the names in the order in which they are peeled off, each once, until none lies on top."""
    left = seen
    order = []
    rest = in_stock_order(stock, names)
    name = first_on_top(stock, left, rest)
    while name is not None:
        order.append(name)
        left = peeled(left, stock.stamp(name))
        rest = names_without(rest, name)
        name = first_on_top(stock, left, rest)
    return tuple(order)


def names_without(names, name):
    """Return the names but this one."""
    return tuple([other for other in names if other != name])


def arranged(stock, seen, names):
    """Return the names in the order in which they can be peeled off, or None if they are no top set."""
    chosen = in_stock_order(stock, checked_names(stock, names))
    order = peel_once(stock, seen, chosen)
    return order if len(order) == len(chosen) else None


def is_top_set(stock, seen, names):
    """Return True if the set of these names is a top set, otherwise False."""
    return arranged(stock, seen, names) is not None


def greatest_top_set(stock, seen):
    """Return the union of all top sets."""
    return in_stock_order(stock, peel_once(stock, seen, stock.names))


def stuck_names(stock, seen):
    """Return the names that are in no top set."""
    return stock.without(greatest_top_set(stock, seen)).names


def least_top_sets(stock, seen, name):
    """Return the top sets with this name of which no other top set with the name is a part."""
    checked_names(stock, (name,))
    return least_sets([names for names in top_sets(stock, seen) if name in names])


def is_part(part, names):
    """Return True if all names of the part are among the names."""
    return all([name in names for name in part])


def least_sets(sets):
    """Return those of the sets of names, smaller ones first, of which no other one is a part."""
    least = []
    for names in sets:
        # Smaller sets come first, so a part of this set is already there.
        if not any([is_part(part, names) for part in least]):
            least.append(names)
    return tuple(least)


def name_sets(stock):
    """Return all sets of names of the stock, smaller ones first, equally large ones ordered like rows."""
    names = stock.names
    numbers = tuple(range(len(names)))
    return tuple([tuple([names[number] for number in chosen]) for chosen in subsets(numbers)])
