"""Ink sheets, on which colours are set, added and bleached, and stocks of ink stamps."""

from stampsheets.stocks import check_pairs, checked_names
from stampsheets.tupling import as_tuples
from stampsheets.wholes import is_whole

DEEDS = ("set", "add", "bleach")
ALL_COLOURS = 7


def is_ink_item(item):
    """Return True if the item may stand in an ink stamp for one cell."""
    if item is None:
        return True
    if not isinstance(item, (list, tuple)) or len(item) != 2:
        return False
    return item[0] in DEEDS and is_whole(item[1], 0, ALL_COLOURS)


def changes_cells(item):
    """Return True if the item changes some cells."""
    return item is not None and (item[0] == "set" or item[1] > 0)


def is_ink_stamp(value, size):
    """Return True if the value is an ink stamp of this size, otherwise False."""
    if not isinstance(value, (list, tuple)) or len(value) != size:
        return False
    return all([is_ink_item(item) for item in value]) and any([changes_cells(item) for item in value])


def inked(sign, item):
    """Return the digit of a cell after the press of what an ink stamp has there."""
    if item is None:
        return sign
    deed, digit = item
    if deed == "set":
        return str(digit)
    if deed == "add":
        return str(int(sign) | digit)
    return str(int(sign) & (ALL_COLOURS - digit))


def ink_press(sheet, stamp):
    """Return the ink sheet after the press of the ink stamp."""
    return "".join([inked(sign, item) for sign, item in zip(sheet, stamp)])


class InkStock:
    """A set of named ink stamps of one size, in a fixed order."""

    def __init__(self, size, stamps):
        pairs = as_tuples(stamps)
        check_pairs(pairs, [is_ink_stamp(stamp, size) for name, stamp in pairs])
        self.size = size
        self.stamps = pairs

    @property
    def names(self):
        """The names, in the order of the stock."""
        return tuple([name for name, stamp in self.stamps])

    def __eq__(self, other):
        return isinstance(other, InkStock) and self.size == other.size and self.stamps == other.stamps


def ink_pressed(inks, sheet, row):
    """Return the ink sheet after all presses of the row, one after the other."""
    stamp_of = {name: stamp for name, stamp in inks.stamps}
    for name in checked_names(stamp_of, row):
        sheet = ink_press(sheet, stamp_of[name])
    return sheet
