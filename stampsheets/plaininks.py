"""Ink sheets and ink stamps, translated into layers."""

from stampsheets.inks import ALL_COLOURS
from stampsheets.layers import DASH, DOT
from stampsheets.stocks import Stock

COLOURS = (1, 2, 4)
THERE = "a"
UNREADABLE = "---"


def signs_for(on, off):
    """Return the three signs of a cell that has the colours of `on` and has not those of `off`."""
    return "".join([THERE if colour & on else DOT if colour & off else DASH for colour in COLOURS])


def plain_layer(reading):
    """Return the layer for an ink reading."""
    return "".join([
        UNREADABLE if sign == DASH else signs_for(int(sign), ALL_COLOURS) for sign in reading
    ])


def cell_signs(layer):
    """Return the signs of the layer in threes, one three for each cell of the ink sheet."""
    return [layer[at:at + len(COLOURS)] for at in range(0, len(layer), len(COLOURS))]


def is_ink_cell(signs):
    """Return True if the signs tell all colours of a cell, or none."""
    return signs == UNREADABLE or all([sign in (THERE, DOT) for sign in signs])


def digit_for(signs):
    """Return the sign of an ink reading for the three signs of a cell."""
    if signs == UNREADABLE:
        return DASH
    return str(sum([colour for colour, sign in zip(COLOURS, signs) if sign == THERE]))


def ink_reading(layer):
    """Return the ink reading for a layer, or None if it has none."""
    cells = cell_signs(layer)
    if len(cells[-1]) != len(COLOURS) or not all([is_ink_cell(signs) for signs in cells]):
        return None
    return "".join([digit_for(signs) for signs in cells])


def plain_item(item):
    """Return the three signs for what an ink stamp has at a cell."""
    if item is None:
        return UNREADABLE
    deed, digit = item
    if deed == "set":
        return signs_for(digit, ALL_COLOURS)
    if deed == "add":
        return signs_for(digit, 0)
    return signs_for(0, digit)


def plain_stamp(stamp):
    """Return the layer of an ink stamp."""
    return "".join([plain_item(item) for item in stamp])


def plain_stock(inks):
    """Return the stock with the layers of the ink stamps."""
    return Stock(inks.size * len(COLOURS), [(name, plain_stamp(stamp)) for name, stamp in inks.stamps])
