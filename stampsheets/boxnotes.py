"""Boxes written as lines."""

from stampsheets.boxes import Box
from stampsheets.errors import BadNote
from stampsheets.layers import is_layer
from stampsheets.stocknotes import stock_lines, stock_told

MOST_STAMPS_IN_BOX = 7
MOST_PAIRS = 4


def format_box(box):
    """Return the text of the box."""
    return "\n".join(stock_lines(box.stock) + ["pair " + start + " " + seen for start, seen in box])


def is_pair_line(line):
    """Return True if the line begins like a pair and has three words."""
    pieces = line.split(" ")
    return pieces[0] == "pair" and len(pieces) == 3


def first_pair_line(lines):
    """Return the number of the first line of a pair, or the number of lines if there is none."""
    for number, line in enumerate(lines):
        # The first line of a box is that of the size.
        if number > 0 and is_pair_line(line):
            return number
    return len(lines)


def layers_told(line, size):
    """Return the two layers of this size that the line of a pair tells, or None."""
    if not is_pair_line(line):
        return None
    layers = tuple(line.split(" ")[1:])
    return layers if all([is_layer(layer) and len(layer) == size for layer in layers]) else None


def parse_box(text):
    """Return the box of which this is the text."""
    lines = text.split("\n")
    middle = first_pair_line(lines)
    stock = stock_told(lines[:middle], MOST_STAMPS_IN_BOX)
    pairs = []
    for number, line in enumerate(lines[middle:], start=middle):
        layers = layers_told(line, stock.size)
        if layers is None or len(pairs) == MOST_PAIRS:
            raise BadNote(number)
        pairs.append(layers)
    return Box(stock, pairs)
