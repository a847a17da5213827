"""Fast sets: cells that no stamp can have pressed last."""

from stampsheets.layers import DASH, cells_of
from stampsheets.peels import peeling


def differs_at(stamp, seen, cells):
    """Return True if the stamp has another mark than the layer at one of the cells."""
    return any([stamp[cell] != DASH and stamp[cell] != seen[cell] for cell in cells])


def covers_any(stamp, cells):
    """Return True if the stamp covers one of the cells."""
    return any([stamp[cell] != DASH for cell in cells])


def is_fast(stock, seen, chosen):
    """Return True if the set of the chosen cells is fast, otherwise False."""
    if any([seen[cell] == DASH for cell in chosen]):
        return False
    return all([differs_at(stamp, seen, chosen) for name, stamp in stock if covers_any(stamp, chosen)])


def fast_cells(stock, seen):
    """Return the greatest fast set in ascending order."""
    return cells_of(peeling(stock, seen).left)


def subsets(cells):
    """Return all sets of these cells, smaller ones first, equally many cells ordered as tuples."""
    found = [()]
    for cell in cells:
        found = found + [chosen + (cell,) for chosen in found]
    return sorted(found, key=lambda chosen: (len(chosen), chosen))


def fast_sets(stock, seen):
    """Return all fast sets."""
    # Every fast set is a part of the greatest one, so no other cells need to be tried.
    return tuple([chosen for chosen in subsets(fast_cells(stock, seen)) if is_fast(stock, seen, chosen)])
