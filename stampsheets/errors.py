"""The errors of the program."""

from stampsheets.tupling import as_tuples


class StampError(ValueError):
    """The base of all errors of the program."""


class BadName(StampError):
    """The pair with this number has no name as its first item."""

    def __init__(self, index):
        self.index = index


class BadStamp(StampError):
    """The pair with this number has no stamp of the right form as its second item."""

    def __init__(self, index):
        self.index = index


class NameTaken(StampError):
    """The name already belongs to a stamp."""

    def __init__(self, name):
        self.name = name


class SizesDiffer(StampError):
    """Two stocks have different sizes."""

    def __init__(self, one, two):
        self.one = one
        self.two = two


class UnknownName(StampError):
    """The stock has no stamp of this name."""

    def __init__(self, name):
        self.name = name


class BadStep(StampError):
    """The step with this number has no form that a trail knows."""

    def __init__(self, index):
        self.index = index


class StocksDiffer(StampError):
    """Two trails or claims belong to stocks that are not equal."""


class BadAtom(StampError):
    """The value is no atom of a claim."""

    def __init__(self, atom):
        self.atom = as_tuples(atom)


class NoOrder(StampError):
    """The row is no order that leads there."""

    def __init__(self, row):
        self.row = as_tuples(row)


class BadPrices(StampError):
    """There are not as many prices as stamps."""


class BadChances(StampError):
    """The values are no chances of the stock."""


class BadWish(StampError):
    """The wish with this number is not a layer of the right size."""

    def __init__(self, index):
        self.index = index


class BadShape(StampError):
    """The shape with this number has not the right form."""

    def __init__(self, index):
        self.index = index


class BadSheet(StampError):
    """The value is no sheet of the right size."""

    def __init__(self, sheet):
        self.sheet = sheet


class DeskFull(StampError):
    """The desk holds no more presses."""


class NothingToUndo(StampError):
    """There is no press that could be undone."""


class BadCount(StampError):
    """The number of presses is out of bounds."""

    def __init__(self, count):
        self.count = count


class CannotMake(StampError):
    """The layer cannot be made; the cells are a fast set that shows it."""

    def __init__(self, cells):
        self.cells = as_tuples(cells)


class Mismatch(StampError):
    """The sheet has another mark at this cell."""

    def __init__(self, cell):
        self.cell = cell


class BadDeed(StampError):
    """The value is no deed."""

    def __init__(self, deed):
        self.deed = as_tuples(deed)


class BadNote(StampError):
    """The line with this number cannot stand where it stands."""

    def __init__(self, line):
        self.line = line


class BadClaimText(StampError):
    """The text is not the text of a claim."""
