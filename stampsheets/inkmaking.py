"""Whether an ink reading can be made into another one, and what rows do to every ink sheet."""

from stampsheets.layers import DOT
from stampsheets.makings import making
from stampsheets.plaininks import COLOURS, THERE, cell_signs, plain_layer, plain_stock
from stampsheets.rows import net_stamp


class InkMaking:
    """The answer whether an ink reading can be made into another one, with a row or a refusal."""

    def __init__(self, made, row, places):
        self.made = made
        self.row = row
        self.places = places


def ink_places(cells):
    """Return the cells of plain layers as pairs of a cell of the ink sheet and a colour."""
    many = len(COLOURS)
    return tuple([(cell // many, COLOURS[cell % many]) for cell in cells])


def ink_making(inks, start, seen):
    """Return the `InkMaking` that tells whether `start` can be made into `seen`."""
    found = making(plain_stock(inks), plain_layer(start), plain_layer(seen))
    return InkMaking(found.made, found.row, ink_places(found.cells))


def colours_at(signs, mark):
    """Return the sum of the colours of a cell that have this mark."""
    return sum([colour for colour, sign in zip(COLOURS, signs) if sign == mark])


def ink_net(inks, row):
    """Return for each cell the colours that the row leaves on it and those that it leaves off."""
    net = net_stamp(plain_stock(inks), row)
    return tuple([(colours_at(signs, THERE), colours_at(signs, DOT)) for signs in cell_signs(net)])
