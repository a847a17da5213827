"""Histories that keep a trail, and the marks that a sheet bears in them."""

from stampsheets.layers import DASH, MARKS, filled, press
from stampsheets.sources import sources_before, trail_sources
from stampsheets.trails import moved_on, settled


def mark_layer(size, cell, mark):
    """Return the layer that has this mark at this cell alone."""
    return DASH * cell + mark + DASH * (size - cell - 1)


def trail_history(trail):
    """Return the first history that keeps the trail, or None."""
    sources = trail_sources(trail)[0]
    if len(sources) == 0:
        return None
    start = filled(sources[0])
    return (start, first_keeping_row(trail, start))


def first_keeping_row(trail, start):
    """Return the first row with which the sheet keeps the trail."""
    end = len(trail.steps)
    places = settled(trail, start, [0])
    if end in places:
        return ()
    # A place that an earlier row reaches on the same sheet needs no second look:
    # whatever follows there follows the earlier row, too.
    known = {(place, start): True for place in places}
    level = [((), start, places)]
    while level:
        further = []
        for row, sheet, at in level:
            for name in trail.stock.names:
                after = press(sheet, trail.stock.stamp(name))
                reached = settled(trail, after, moved_on(trail, name, at))
                fresh = [place for place in reached if (place, after) not in known]
                if end in fresh:
                    return row + (name,)
                if fresh:
                    known.update({(place, after): True for place in fresh})
                    further.append((row + (name,), after, fresh))
        level = further
    return None


def may_bear(trail, index, behind, cell, mark):
    """Return True if a sheet may bear the mark just before the step that has these sources."""
    look = ("look", mark_layer(trail.stock.size, cell, mark))
    layers = sources_before(trail.stock, look, behind)
    for step in reversed(trail.steps[:index]):
        layers = sources_before(trail.stock, step, layers)
    return len(layers) > 0


def like_marks(trail, cell):
    """Return all marks in groups such that the trail treats those of a group alike at the cell."""
    layers = [told for word, told in trail.steps if word == "look"]
    layers = layers + [stamp for name, stamp in trail.stock]
    told_here = [layer[cell] for layer in layers]
    others = [mark for mark in MARKS if mark not in told_here]
    groups = [[mark] for mark in MARKS if mark in told_here]
    return [others] + groups if others else groups


def possible_marks(trail, index, cell):
    """Return all marks that the sheet may bear at the cell just before step number `index`."""
    behind = trail_sources(trail)[index]
    possible = []
    for group in like_marks(trail, cell):
        if may_bear(trail, index, behind, cell, group[0]):
            possible.extend(group)
    return tuple([mark for mark in MARKS if mark in possible])


def sure_mark(trail, index, behind, cell):
    """Return the only mark that is possible at the cell, or a dash if there are several."""
    sure = DASH
    for group in like_marks(trail, cell):
        if may_bear(trail, index, behind, cell, group[0]):
            if sure != DASH or len(group) > 1:
                return DASH
            sure = group[0]
    return sure


def sure_marks(trail, index):
    """Return the layer of all marks that are sure just before step number `index`, or None."""
    sources = trail_sources(trail)
    if len(sources[0]) == 0:
        return None
    behind = sources[index]
    return "".join([sure_mark(trail, index, behind, cell) for cell in range(trail.stock.size)])
