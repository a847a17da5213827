"""Boxes of which only the sheets are known that were made with them."""

from stampsheets.makings import making
from stampsheets.tupling import as_tuples


class Box:
    """An unknown part of a stock, with the pairs of layers that its stamps have made."""

    def __init__(self, stock, pairs):
        self.stock = stock
        self.pairs = as_tuples(pairs)

    def __len__(self):
        return len(self.pairs)

    def __iter__(self):
        return iter(self.pairs)

    def __eq__(self, other):
        return isinstance(other, Box) and self.stock == other.stock and self.pairs == other.pairs

    def with_pair(self, start, seen):
        """Return the box with one more pair at the end."""
        return Box(self.stock, self.pairs + ((start, seen),))


def refusal_of(box, names):
    """Return None if the set of names explains the box, otherwise the first pair that it does not."""
    chosen = box.stock.only(names)
    for index, (start, seen) in enumerate(box.pairs):
        found = making(chosen, start, seen)
        if not found.made:
            return (index, found.cells, found.cell)
    return None


def explains(box, names):
    """Return True if the set of names explains the box, otherwise False."""
    return refusal_of(box, names) is None
