"""Stocks written as lines."""

from stampsheets.errors import BadNote
from stampsheets.layers import LONGEST
from stampsheets.stocks import Stock, is_name, is_stamp
from stampsheets.wholes import told_number

MOST_STAMPS = 24


def stock_lines(stock):
    """Return the lines of a stock."""
    return ["stock " + str(stock.size)] + [name + " " + stamp for name, stamp in stock]


def format_stock(stock):
    """Return the text of the stock."""
    return "\n".join(stock_lines(stock))


def size_told(line):
    """Return the size that the first line of a stock tells, or None."""
    word, _, size = line.partition(" ")
    return told_number(size, 1, LONGEST) if word == "stock" else None


def pair_told(line, size):
    """Return the pair of a name and a stamp of this size that the line tells, or None."""
    name, _, stamp = line.partition(" ")
    return (name, stamp) if is_name(name) and is_stamp(stamp, size) else None


def stock_told(lines, most):
    """Return the stock, of at most so many stamps, that the lines tell, or raise an error for the first bad line."""
    size = size_told(lines[0])
    if size is None:
        raise BadNote(0)
    names = []
    pairs = []
    for number, line in enumerate(lines[1:], start=1):
        pair = pair_told(line, size)
        if pair is None or pair[0] in names or len(pairs) == most:
            raise BadNote(number)
        names.append(pair[0])
        pairs.append(pair)
    return Stock(size, pairs)


def parse_stock(text):
    """Return the stock of which this is the text."""
    return stock_told(text.split("\n"), MOST_STAMPS)
