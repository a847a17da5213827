"""The sources of a trail: the least that must be on a sheet before each step."""

from stampsheets.layers import agree, empty_layer, joined, layer_order, within
from stampsheets.peels import on_top, peeled, peeling


def holds_one_within(layers, layer):
    """Return True if one of the layers is within the layer."""
    return any([within(one, layer) for one in layers])


def least_layers(layers):
    """Return those layers that have no other one within themselves, each once, in order."""
    least = []
    # In the order of layers, what is within a layer comes before it.
    for layer in sorted(layers, key=layer_order):
        if not holds_one_within(least, layer):
            least.append(layer)
    return tuple(least)


def layers_before(stock, step, behind):
    """Return the layers before a step that come from the layers behind it."""
    word, told = step
    if word == "look":
        return [joined(layer, told) for layer in behind if agree(layer, told)]
    named = stock.only(told)
    if word == "rows":
        return [peeling(named, layer).left for layer in behind]
    return [peeled(layer, named.stamp(name)) for layer in behind for name in on_top(named, layer)]


def sources_before(stock, step, behind):
    """Return the sources before a step, found from those behind it."""
    return least_layers(layers_before(stock, step, behind))


def trail_sources(trail):
    """Return the sources before each step, and those at the end."""
    behind = (empty_layer(trail.stock.size),)
    found = [behind]
    for step in reversed(trail.steps):
        behind = sources_before(trail.stock, step, behind)
        found.append(behind)
    return tuple(found[::-1])


def step_is_held(stock, step, before, behind):
    """Return True if the layers before a step hold all that may start from those behind it."""
    word, told = step
    if word == "rows":
        needed = list(behind) + layers_before(stock, ("press", told), before)
    else:
        needed = layers_before(stock, step, behind)
    return all([holds_one_within(before, layer) for layer in needed])


def is_source_table(trail, table):
    """Return True if the table holds all starts of the trail, otherwise False."""
    if empty_layer(trail.stock.size) not in table[-1]:
        return False
    return all([
        step_is_held(trail.stock, step, table[index], table[index + 1])
        for index, step in enumerate(trail.steps)
    ])
