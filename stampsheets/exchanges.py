"""Ways from one order to another by exchanging neighbours."""

from stampsheets.errors import NoOrder
from stampsheets.makings import is_made
from stampsheets.tupling import as_tuples


def is_leading_order(stock, start, seen, row):
    """Return True if the row, of any strings, is an order that leads from `start` to `seen`."""
    return sorted(row) == sorted(stock.names) and is_made(stock, start, seen, row)


def exchanged_to(row, name, place):
    """Return the rows that come about while the name goes to the right until it stands at the place."""
    rows = []
    for at in range(row.index(name), place):
        row = row[:at] + (row[at + 1], row[at]) + row[at + 2:]
        rows.append(row)
    return rows


def exchange_way(stock, start, seen, one, two):
    """Return the orders on the way from `one` to `two` by exchanging neighbours."""
    first = as_tuples(one)
    last = as_tuples(two)
    for row in (first, last):
        if not is_leading_order(stock, start, seen, row):
            raise NoOrder(row)
    way = [first]
    for place in reversed(range(len(last))):
        way = way + exchanged_to(way[-1], last[place], place)
    return tuple(way)
