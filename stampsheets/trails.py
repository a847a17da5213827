"""Trails: what is known of a sheet in the course of time."""

from stampsheets.errors import BadStep, StocksDiffer
from stampsheets.layers import is_layer, press, within
from stampsheets.stocks import checked_names, in_stock_order
from stampsheets.tupling import as_tuples

STEP_WORDS = ("look", "rows", "press")


def checked_step(stock, index, step):
    """Return the step with its names in the order of the stock, or raise its error."""
    if len(step) != 2 or step[0] not in STEP_WORDS:
        raise BadStep(index)
    word, told = step
    if word == "look":
        if not is_layer(told) or len(told) != stock.size:
            raise BadStep(index)
        return step
    return (word, in_stock_order(stock, checked_names(stock, told)))


class Trail:
    """A sequence of looks and of stretches of presses."""

    def __init__(self, stock, steps):
        self.stock = stock
        self.steps = tuple([checked_step(stock, index, step) for index, step in enumerate(as_tuples(steps))])

    def __len__(self):
        return len(self.steps)

    def __iter__(self):
        return iter(self.steps)

    def __eq__(self, other):
        return isinstance(other, Trail) and self.stock == other.stock and self.steps == other.steps

    def __add__(self, other):
        if self.stock != other.stock:
            raise StocksDiffer()
        return Trail(self.stock, self.steps + other.steps)

    def with_look(self, index, layer):
        """Return the trail with a look at the layer put in before step number `index`."""
        return Trail(self.stock, self.steps[:index] + (("look", layer),) + self.steps[index:])


def settled(trail, sheet, places):
    """Return the numbers of all steps that can be next without a press.

    `places` are such numbers; the number of steps means the end of the trail.
    """
    reached = []
    for place, (word, told) in enumerate(trail.steps):
        if place in places or place in reached:
            if word == "rows" or (word == "look" and within(told, sheet)):
                reached.append(place + 1)
    return [place for place in range(len(trail.steps) + 1) if place in places or place in reached]


def moved_on(trail, name, places):
    """Return the numbers of the steps that can be next after a press of this name."""
    moved = []
    for place, (word, told) in enumerate(trail.steps):
        if place in places and word != "look" and name in told:
            moved.append(place if word == "rows" else place + 1)
    return moved


def keeps(trail, start, row):
    """Return True if the history keeps the trail, otherwise False."""
    sheet = start
    places = settled(trail, sheet, [0])
    for name in checked_names(trail.stock, row):
        sheet = press(sheet, trail.stock.stamp(name))
        places = settled(trail, sheet, moved_on(trail, name, places))
    return len(trail.steps) in places
