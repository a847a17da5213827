"""Papers that show that a set of names is the fewest that explain a box."""

from stampsheets.boxes import explains, refusal_of
from stampsheets.choices import fewest_names
from stampsheets.hurdles import breakers
from stampsheets.layers import DASH
from stampsheets.makings import marks_differ
from stampsheets.stocks import in_stock_order
from stampsheets.topsets import name_sets
from stampsheets.tupling import as_tuples


def is_valid(box, index, cells):
    """Return True if the pair has marks at all of the cells and differs at one of them."""
    start, seen = box.pairs[index]
    if any([seen[cell] == DASH for cell in cells]):
        return False
    return any([marks_differ(start, seen, cell) for cell in cells])


def sets_with_fewer(box, many):
    """Return all sets of names of the stock with fewer names than so many."""
    return [names for names in name_sets(box.stock) if len(names) < many]


def is_barred(names, barriers):
    """Return True if the set has no name in common with one of the barriers."""
    return any([not any([name in names for name in barrier]) for barrier in barriers])


def is_fewest_paper(box, names, cases):
    """Return True if the cases show that the set is one of the fewest names that explain the box."""
    told = as_tuples(cases)
    if not explains(box, names):
        return False
    if not all([is_valid(box, index, cells) for index, cells in told]):
        return False
    barriers = [breakers(box.stock, box.pairs[index][1], cells) for index, cells in told]
    many = len(in_stock_order(box.stock, names))
    return all([is_barred(fewer, barriers) for fewer in sets_with_fewer(box, many)])


def fewest_paper(box):
    """Return the cases that refuse all sets with fewer names than explain the box, or None."""
    fewest = fewest_names(box)
    if fewest is None:
        return None
    cases = []
    for names in sets_with_fewer(box, len(fewest)):
        index, cells, _ = refusal_of(box, names)
        if (index, cells) not in cases:
            cases.append((index, cells))
    return tuple(cases)
