"""Small boxes for tests."""

from random import Random

from stampsheets.boxes import Box
from stampsheets.stocks import Stock
from tests.plain import press_row, random_layer, random_pairs

SIZE = 3


def random_box(seed, many=4):
    """Return the pairs of a stock and of a box that depend on the seed alone."""
    random = Random(seed * 13 + 5)
    pairs = random_pairs(seed, SIZE, many, "---ab")
    couples = []
    for _ in range(random.randrange(0, 4)):
        start = random_layer(random, SIZE, "--z")
        if random.random() < 0.8:
            # Mostly something that can be made, perhaps not wholly readable.
            row = [random.choice("xyzu"[:many]) for _ in range(4)]
            made = press_row(pairs, start.replace("-", "z"), row)
            seen = "".join("-" if random.random() < 0.3 else sign for sign in made)
        else:
            seen = random_layer(random, SIZE, "-ab")
        couples.append((start, seen))
    return pairs, tuple(couples)


def box_of(pairs, couples):
    return Box(Stock(SIZE, pairs), couples)
