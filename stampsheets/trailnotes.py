"""Trails written as lines."""

from stampsheets.errors import BadNote
from stampsheets.layers import is_layer
from stampsheets.stocks import in_stock_order
from stampsheets.trails import Trail

MOST_STEPS = 12


def step_line(step):
    """Return the line of a step."""
    word, told = step
    if word == "look":
        return word + " " + told
    return " ".join((word,) + told)


def format_trail(trail):
    """Return the text of the trail."""
    return "\n".join([step_line(step) for step in trail])


def step_told(stock, line):
    """Return the step that the line tells, or None."""
    pieces = tuple(line.split(" "))
    word, told = pieces[0], pieces[1:]
    if word == "look":
        is_told = len(told) == 1 and is_layer(told[0]) and len(told[0]) == stock.size
        return (word, told[0]) if is_told else None
    if word in ("rows", "press") and in_stock_order(stock, told) == told:
        return (word, told)
    return None


def parse_trail(stock, text):
    """Return the trail of which this is the text."""
    lines = [] if text == "" else text.split("\n")
    steps = []
    for number, line in enumerate(lines):
        step = step_told(stock, line)
        if step is None or number == MOST_STEPS:
            raise BadNote(number)
        steps.append(step)
    return Trail(stock, steps)
