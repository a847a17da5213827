"""Desks: a sheet, and the presses that were made on it."""

from stampsheets.errors import BadCount, BadSheet, CannotMake, DeskFull, NothingToUndo
from stampsheets.layers import is_sheet
from stampsheets.makings import making
from stampsheets.rows import pressed
from stampsheets.shortest import shortest_row
from stampsheets.stocks import checked_names

MOST_PRESSES = 60


def checked_sheet(stock, sheet):
    """Return the string, or raise an error if it is not a sheet of the size of the stock."""
    if not is_sheet(sheet) or len(sheet) != stock.size:
        raise BadSheet(sheet)
    return sheet


class Desk:
    """A stock, a first sheet, and the presses that stand."""

    def __init__(self, stock, sheet):
        self.stock = stock
        self.laid = checked_sheet(stock, sheet)
        self.standing = ()

    @property
    def first_sheet(self):
        """The sheet as it was before all presses."""
        return self.laid

    @property
    def presses(self):
        """The row of all presses that stand."""
        return self.standing

    @property
    def now(self):
        """The sheet as it is now; a new one may be laid on the desk."""
        return pressed(self.stock, self.laid, self.standing)

    @now.setter
    def now(self, value):
        self.laid = checked_sheet(self.stock, value)
        self.standing = ()

    def __len__(self):
        return len(self.standing)

    def __iter__(self):
        return iter(self.standing)

    def press(self, name):
        """Press a stamp and return the new sheet."""
        row = checked_names(self.stock, (name,))
        if len(self.standing) + len(row) > MOST_PRESSES:
            raise DeskFull()
        self.standing = self.standing + row
        return self.now

    def undo(self):
        """Take the last press back and return its name."""
        if len(self.standing) == 0:
            raise NothingToUndo()
        name = self.standing[-1]
        self.standing = self.standing[:-1]
        return name

    def back_to(self, count):
        """Take presses back until so many of them stand, and return the sheet."""
        if not 0 <= count <= len(self.standing):
            raise BadCount(count)
        self.standing = self.standing[:count]
        return self.now

    def make(self, layer):
        """Press the shortest row that leads to the layer, and return this row."""
        found = making(self.stock, self.now, layer)
        if not found.made:
            raise CannotMake(found.cells)
        row = shortest_row(self.stock, self.now, layer)
        if len(self.standing) + len(row) > MOST_PRESSES:
            raise DeskFull()
        self.standing = self.standing + row
        return row
