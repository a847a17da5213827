"""Layers drawn as grids."""


def grid_rows(layer, width):
    """Return the rows of the grid, from the top."""
    return tuple([layer[at:at + width] for at in range(0, len(layer), width)])


def grid_layer(rows):
    """Return the layer of a grid with these rows."""
    return "".join(rows)


def columns(rows):
    """Return the columns of the rows, from the left, each read from the top."""
    return tuple(["".join([row[place] for row in rows]) for place in range(len(rows[0]))])


def turned_rows(rows):
    """Return the rows of the grid turned by a quarter to the right."""
    return columns(rows[::-1])


def mirrored_rows(rows):
    """Return the rows of the grid with left and right exchanged."""
    return tuple([row[::-1] for row in rows])


def turned(layer, width):
    """Return the layer of the grid turned by a quarter to the right."""
    return grid_layer(turned_rows(grid_rows(layer, width)))


def mirrored(layer, width):
    """Return the layer of the grid with left and right exchanged."""
    return grid_layer(mirrored_rows(grid_rows(layer, width)))
