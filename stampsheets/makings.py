"""Whether a layer can be made into another one, and by which row."""

from stampsheets.fastness import is_fast
from stampsheets.layers import DASH, agree, cells_of, press
from stampsheets.peels import peeling
from stampsheets.rows import net_stamp


class Making:
    """The answer whether `start` can be made into `seen`, with a row or a refusal."""

    def __init__(self, made, row, cells, cell):
        self.made = made
        self.row = row
        self.cells = cells
        self.cell = cell


def marks_differ(one, two, cell):
    """Return True if both layers have marks at the cell and the marks differ."""
    return one[cell] != DASH and two[cell] != DASH and one[cell] != two[cell]


def making(stock, start, seen):
    """Return the `Making` that tells whether `start` can be made into `seen`."""
    end = peeling(stock, seen)
    for cell in cells_of(end.left):
        if marks_differ(start, end.left, cell):
            return Making(False, None, cells_of(end.left), cell)
    return Making(True, end.order[::-1], (), None)


def is_refusal(stock, start, seen, chosen):
    """Return True if the chosen cells show that `start` cannot be made into `seen`."""
    if not is_fast(stock, seen, chosen):
        return False
    return any([marks_differ(start, seen, cell) for cell in chosen])


def is_made(stock, start, seen, row):
    """Return True if the row leads from `start` to `seen`, otherwise False."""
    return agree(press(start, net_stamp(stock, row)), seen)
