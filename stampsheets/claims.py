"""Claims about rows, put together from atoms."""

from stampsheets.errors import BadAtom, StocksDiffer
from stampsheets.stocks import checked_names
from stampsheets.tupling import as_tuples
from stampsheets.wholes import is_whole


def is_rest(items):
    """Return True if the items are a string, a modulus and a rest."""
    if len(items) != 3:
        return False
    name, modulus, rest = items
    return isinstance(name, str) and is_whole(modulus, 2, 4) and is_whole(rest, 0, modulus - 1)


def is_pair_of_names(items):
    """Return True if the items are two strings."""
    return len(items) == 2 and isinstance(items[0], str) and isinstance(items[1], str)


def is_place_and_name(items, size):
    """Return True if the items are a cell and a string or None."""
    if len(items) != 2 or not is_whole(items[0], 0, size - 1):
        return False
    return items[1] is None or isinstance(items[1], str)


def is_atom(atom, size):
    """Return True if the tuple is an atom for a stock of this size, whatever its names."""
    if len(atom) == 0:
        return False
    word, items = atom[0], atom[1:]
    if word in ("ends", "begins"):
        return len(items) == 1 and isinstance(items[0], str)
    if word in ("over", "ahead"):
        return is_pair_of_names(items) and items[0] != items[1]
    if word == "next":
        return is_pair_of_names(items)
    if word == "used":
        return len(items) == 2 and isinstance(items[0], str) and is_whole(items[1], 1, 3)
    if word == "rest":
        return is_rest(items)
    return word == "top" and is_place_and_name(items, size)


def names_in(atom):
    """Return the names in an atom, in order."""
    return [item for item in atom[1:] if isinstance(item, str)]


def atoms_of(tree):
    """Return the atoms of a tree from left to right."""
    if tree[0] == "atom":
        return (tree[1],)
    if tree[0] == "not":
        return atoms_of(tree[1])
    return atoms_of(tree[1]) + atoms_of(tree[2])


class Claim:
    """What is claimed about a row of presses."""

    def __init__(self, stock, tree):
        self.stock = stock
        self.tree = tree

    @staticmethod
    def of(stock, atom):
        """Return the claim of a single atom."""
        kept = as_tuples(atom)
        if not is_atom(kept, stock.size):
            raise BadAtom(kept)
        checked_names(stock, names_in(kept))
        return Claim(stock, ("atom", kept))

    @property
    def atoms(self):
        """The atoms from left to right, with repetition."""
        return atoms_of(self.tree)

    def __and__(self, other):
        if self.stock != other.stock:
            raise StocksDiffer()
        return Claim(self.stock, ("and", self.tree, other.tree))

    def __or__(self, other):
        if self.stock != other.stock:
            raise StocksDiffer()
        return Claim(self.stock, ("or", self.tree, other.tree))

    def __invert__(self):
        return Claim(self.stock, ("not", self.tree))

    def __eq__(self, other):
        return isinstance(other, Claim) and self.stock == other.stock and self.tree == other.tree
