"""Names, and stocks of named stamps."""

from stampsheets.errors import BadName, BadStamp, NameTaken, SizesDiffer, UnknownName
from stampsheets.layers import LETTERS, cells_of, is_layer
from stampsheets.tupling import as_tuples

DIGITS = "0123456789"
LONGEST_NAME = 8


def is_name(value):
    """Return True if the value is a name, otherwise False."""
    if not isinstance(value, str):
        return False
    if not 1 <= len(value) <= LONGEST_NAME:
        return False
    return value[0] in LETTERS and all([sign in LETTERS or sign in DIGITS for sign in value])


def is_stamp(value, size):
    """Return True if the value is a stamp of this size, otherwise False."""
    return is_layer(value) and len(value) == size and len(cells_of(value)) > 0


def check_pairs(pairs, fitting):
    """Raise the error of the first pair that cannot stand in a stock.

    `fitting` tells for each pair whether its second item is a stamp.
    """
    earlier = []
    for index, (name, _) in enumerate(pairs):
        if not is_name(name):
            raise BadName(index)
        if not fitting[index]:
            raise BadStamp(index)
        if name in earlier:
            raise NameTaken(name)
        earlier.append(name)


def checked_names(stock, names):
    """Return the names as a tuple, or raise an error for the first one that the stock does not have."""
    for name in names:
        if name not in stock:
            raise UnknownName(name)
    return tuple(names)


def check_sizes(one, two):
    """Raise an error if the stocks have different sizes."""
    if one.size != two.size:
        raise SizesDiffer(one.size, two.size)


def in_stock_order(stock, names):
    """Return the set of these names of the stock: each once, in the order of the stock."""
    return tuple([name for name in stock.names if name in names])


class Stock:
    """A set of named stamps of one size, in a fixed order."""

    def __init__(self, size, stamps):
        pairs = as_tuples(stamps)
        check_pairs(pairs, [is_stamp(stamp, size) for name, stamp in pairs])
        self.size = size
        self.stamps = pairs
        self._stamp_of = {name: stamp for name, stamp in pairs}

    @property
    def names(self):
        """The names, in the order of the stock."""
        return tuple([name for name, stamp in self.stamps])

    def __len__(self):
        return len(self.stamps)

    def __contains__(self, name):
        return name in self._stamp_of

    def __iter__(self):
        return iter(self.stamps)

    def __eq__(self, other):
        return isinstance(other, Stock) and self.size == other.size and self.stamps == other.stamps

    def __or__(self, other):
        check_sizes(self, other)
        for name, stamp in other.stamps:
            if name in self and self.stamp(name) != stamp:
                raise NameTaken(name)
        return Stock(self.size, self.stamps + tuple([pair for pair in other.stamps if pair[0] not in self]))

    def stamp(self, name):
        """Return the stamp of this name."""
        if name not in self:
            raise UnknownName(name)
        return self._stamp_of[name]

    def only(self, names):
        """Return the stock of the pairs whose names are among these."""
        chosen = checked_names(self, names)
        return Stock(self.size, [pair for pair in self.stamps if pair[0] in chosen])

    def without(self, names):
        """Return the stock of the pairs whose names are not among these."""
        chosen = checked_names(self, names)
        return Stock(self.size, [pair for pair in self.stamps if pair[0] not in chosen])

    def renamed(self, old, new):
        """Return the stock in which the stamp `old` has the name `new`."""
        checked_names(self, (old,))
        if new != old and new in self:
            raise NameTaken(new)
        return Stock(self.size, [(new if name == old else name, stamp) for name, stamp in self.stamps])
