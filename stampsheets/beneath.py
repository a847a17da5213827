"""What lies directly beneath the mark that a cell shows, and which stamp shows it."""

from stampsheets.layers import DASH
from stampsheets.makings import making
from stampsheets.peels import on_top, peeling
from stampsheets.trailing import mark_layer, possible_marks, trail_history
from stampsheets.trails import Trail


def covering_names(stock, cell):
    """Return the names of the stamps that cover the cell."""
    return tuple([name for name, stamp in stock if stamp[cell] != DASH])


def steps_from(stock, start):
    """Return the steps of a trail that ends just before the last press that covers a cell."""
    return (("look", start), ("rows", stock.names))


def steps_on_top(stock, seen, cell):
    """Return the steps of a trail that begins with the last press that covers the cell."""
    covering = covering_names(stock, cell)
    return (("press", covering), ("rows", stock.without(covering).names), ("look", seen))


def marks_beneath(stock, start, seen, cell):
    """Return all marks that can lie directly beneath what is shown at the cell."""
    before = steps_from(stock, start)
    trail = Trail(stock, before + steps_on_top(stock, seen, cell))
    return possible_marks(trail, len(before), cell)


def beneath_history(stock, start, seen, cell, mark):
    """Return a history in which this mark lies directly beneath, or None."""
    look = ("look", mark_layer(stock.size, cell, mark))
    steps = steps_from(stock, start) + (look,) + steps_on_top(stock, seen, cell)
    return trail_history(Trail(stock, steps))


def may_be_bare(stock, start, seen, cell):
    """Return True if some row leads from `start` to `seen` without covering the cell."""
    return making(stock.without(covering_names(stock, cell)), start, seen).made


def possible_tops(stock, start, seen, cell):
    """Return the names of all stamps that can be the last to cover the cell."""
    if not making(stock, start, seen).made:
        return ()
    covering = covering_names(stock, cell)
    # What the other stamps leave is within all that they can leave of the sheet, and
    # no peeling bars the way to the end, so only this one layer has to be looked at.
    left = peeling(stock.without(covering), seen).left
    return tuple([name for name in on_top(stock, left) if name in covering])


def sure_top(stock, start, seen, cell):
    """Return the name of the stamp that must be the last to cover the cell, or None."""
    tops = possible_tops(stock, start, seen, cell)
    if len(tops) == 1 and not may_be_bare(stock, start, seen, cell):
        return tops[0]
    return None
