"""Shapes, and all places at which they lie within a grid."""

from stampsheets.errors import BadName, BadShape, NameTaken
from stampsheets.grids import grid_layer, turned_rows
from stampsheets.layers import DASH, MARKS
from stampsheets.stocks import Stock, is_name
from stampsheets.tupling import as_tuples

LONGEST_SHAPE_NAME = 6


def is_shape(value):
    """Return True if the rows are a shape, otherwise False."""
    if any([len(row) != len(value[0]) for row in value]):
        return False
    # Where there is a mark, there are a row and a column.
    signs = grid_layer(value)
    return all([sign == DASH or sign in MARKS for sign in signs]) and any([sign != DASH for sign in signs])


def placed(shape, height, width, row, column):
    """Return the layer of a grid with the shape at this row and column, or None if it does not lie within."""
    above, below = row, height - row - len(shape)
    left, right = column, width - column - len(shape[0])
    if above < 0 or below < 0 or left < 0 or right < 0:
        return None
    rows = [DASH * left + signs + DASH * right for signs in shape]
    return DASH * (width * above) + grid_layer(rows) + DASH * (width * below)


def placings(shape, height, width):
    """Return the layers of all places at which the shape lies within the grid."""
    layers = [placed(shape, height, width, row, column) for row in range(height) for column in range(width)]
    return tuple([layer for layer in layers if layer is not None])


def each_once(values):
    """Return the values as a tuple, each only at its first place."""
    return tuple(list({value: True for value in values}))


def shape_turns(shape):
    """Return the shape and the shapes turned by one, two and three quarters, each once."""
    first = as_tuples(shape)
    second = turned_rows(first)
    third = turned_rows(second)
    return each_once([first, second, third, turned_rows(third)])


def check_shapes(pairs):
    """Raise the error of the first pair of a name and a shape that cannot stand where it stands."""
    for index, (name, shape) in enumerate(pairs):
        if not is_name(name) or len(name) > LONGEST_SHAPE_NAME:
            raise BadName(index)
        if not is_shape(shape):
            raise BadShape(index)
    names = [name for name, shape in pairs]
    for index, name in enumerate(names):
        if name in names[:index]:
            raise NameTaken(name)


def grid_stock(height, width, shapes, *, turns=False):
    """Return the stock of all placings of the shapes, also of the turned ones if `turns` is True."""
    check_shapes(shapes)
    stamps = []
    for name, shape in shapes:
        forms = shape_turns(shape) if turns else (shape,)
        layers = each_once([layer for form in forms for layer in placings(form, height, width)])
        stamps.extend([(name + str(number), layer) for number, layer in enumerate(layers)])
    return Stock(height * width, stamps)
