"""Histories that keep a trail, and the marks that a sheet bears in them."""

from stampsheets.layers import DASH, MARKS, filled, press
from stampsheets.sources import sources_before, trail_sources
from stampsheets.trails import moved_on, settled


def mark_layer(size, cell, mark):
    """Return the layer that has this mark at this cell alone."""
    return DASH * cell + mark + DASH * (size - cell - 1)


def trail_history(trail):
    """Return the first history that keeps the trail, or None."""
    sources = trail_sources(trail)[0]
    if len(sources) == 0:
        return None
    start = filled(sources[0])
    return (start, first_keeping_row(trail, start))


def first_keeping_row(trail, start):
    """Return the first row with which the sheet keeps the trail."""
    end = len(trail.steps)
    places = settled(trail, start, [0])
    if end in places:
        return ()
    # A place that an earlier row reaches on the same sheet needs no second look:
    # whatever follows there follows the earlier row, too.
    known = {(place, start): True for place in places}
    level = [((), start, places)]
    while level:
        further = []
        for row, sheet, at in list(level):
            for name in trail.stock.names:
                after = press(sheet, trail.stock.stamp(name))
                reached = settled(trail, after, moved_on(trail, name, at))
                fresh = [place for place in reached if (place, after) not in known]
                if end in fresh:
                    return row + (name,)
                if fresh:
                    known.update({(place, after): True for place in fresh})
                    further.append((row + (name,), after, fresh))
        level = further
    return None


def may_bear(trail, index, behind, cell, mark):
    """Return True if a sheet may bear the mark just before the step that has these sources."""
    look = ("look", mark_layer(trail.stock.size, cell, mark))
    layers = sources_before(trail.stock, look, behind)
    for step in reversed(trail.steps[:index]):
        layers = sources_before(trail.stock, step, layers)
    return len(layers) > 0


def marks_told(trail, cell):
    """Return the marks that a stamp or a look of the trail has at the cell."""
    layers = [told for word, told in trail.steps if word == "look"]
    layers = layers + [stamp for name, stamp in trail.stock]
    signs = [layer[cell] for layer in layers]
    return [mark for mark in MARKS if mark in signs]


def marks_before(trail, index, behind, cell):
    """Return the marks that the cell may bear just before the step that has these sources."""
    told = marks_told(trail, cell)
    others = [mark for mark in MARKS if mark not in told]
    # A mark that nothing tells of can only have been there from the start, unseen
    # by all looks; then every other mark can have been there, too.
    if others and may_bear(trail, index, behind, cell, others[0]):
        return tuple(MARKS)
    return tuple([mark for mark in told if may_bear(trail, index, behind, cell, mark)])


def possible_marks(trail, index, cell):
    """Return all marks that the sheet may bear at the cell just before step number `index`."""
    return marks_before(trail, index, trail_sources(trail)[index], cell)


def sure_marks(trail, index):
    """Return the layer of all marks that are sure just before step number `index`, or None."""
    sources = trail_sources(trail)
    if len(sources[0]) == 0:
        return None
    signs = []
    for cell in range(trail.stock.size):
        marks = marks_before(trail, index, sources[index], cell)
        signs.append(marks[0] if len(marks) == 1 else DASH)
    return "".join(signs)
