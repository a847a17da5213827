"""Small stocks and faulty texts for tests."""

from random import Random

from stampsheets.errors import StampError
from stampsheets.stocks import Stock
from tests.plain import random_stamp

# Names of which some are words of the notes.
NAMES = ["x", "y", "pair", "look", "rows", "press", "stock", "used", "bare", "top", "n7", "long1234"]


def random_stock(seed, most=6, size=None):
    random = Random(seed * 29 + 1)
    size = random.randrange(1, 5) if size is None else size
    names = random.sample(NAMES, random.randrange(0, most + 1))
    return Stock(size, [(name, random_stamp(random, size, "-ab.")) for name in names])


def fault(function, *arguments):
    """Return the kind and the field of the error that a call raises, or None."""
    try:
        function(*arguments)
    except StampError as error:
        return (type(error), *vars(error).values())
    return None
