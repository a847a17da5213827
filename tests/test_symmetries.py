"""Point 87: turned and mirrored stocks, and symmetries."""

import unittest
from random import Random

from stampsheets.shapes import grid_stock
from stampsheets.stocks import Stock
from stampsheets.symmetries import grid_symmetries, mirrored_stock, turned_stock
from tests.plain import random_stamp

WORDS = ("half", "mirror", "flip", "quarter", "diagonal")


def where(word, row, column, height, width):
    """Say where a cell stands afterwards."""
    return {
        "half": (height - 1 - row, width - 1 - column), "mirror": (row, width - 1 - column),
        "flip": (height - 1 - row, column), "quarter": (column, height - 1 - row), "diagonal": (column, row),
    }[word]


def changed(word, layer, width):
    height = len(layer) // width
    signs = {}
    for at, sign in enumerate(layer):
        row, column = where(word, at // width, at % width, height, width)
        signs[(row, column)] = sign
    return "".join(signs[cell] for cell in sorted(signs))


class TurnedStockTest(unittest.TestCase):
    def test_ordinary(self):
        stock = Stock(6, [("y", "abc---"), ("x", "a--b--")])
        self.assertEqual(turned_stock(stock, 3), Stock(6, [("y", "-a-b-c"), ("x", "ba----")]))
        self.assertEqual(mirrored_stock(stock, 3), Stock(6, [("y", "cba---"), ("x", "--a--b")]))
        self.assertEqual(turned_stock(width=6, stock=stock), stock)
        self.assertEqual(mirrored_stock(width=1, stock=stock), stock)
        self.assertEqual(turned_stock(Stock(6, ()), 2), Stock(6, ()))
        self.assertEqual(mirrored_stock(Stock(6, ()), 2), Stock(6, ()))


class SymmetriesTest(unittest.TestCase):
    def test_ordinary(self):
        every = grid_stock(2, 2, [("x", ["a"])])
        self.assertEqual(grid_symmetries(every, 2), WORDS)
        self.assertEqual(grid_symmetries(stock=every, width=4), WORDS[:3])
        self.assertEqual(grid_symmetries(grid_stock(3, 3, [("x", ["ab"])], turns=True), 3), WORDS)
        self.assertEqual(grid_symmetries(grid_stock(3, 3, [("x", ["ab"])]), 3), ("flip",))
        self.assertEqual(grid_symmetries(grid_stock(3, 3, [("x", ["aa"])]), 3), ("half", "mirror", "flip"))
        # Four turns of an ell that is not its own mirror image.
        self.assertEqual(grid_symmetries(grid_stock(3, 3, [("x", ["ab", "a-"])], turns=True), 3), ("half", "quarter"))
        self.assertEqual(grid_symmetries(grid_stock(3, 3, [("x", ["aa", "a-"])], turns=True), 3), WORDS)
        self.assertEqual(grid_symmetries(Stock(4, [("x", "a--b")]), 2), ("diagonal",))

    def test_the_empty_stock(self):
        self.assertEqual(grid_symmetries(Stock(4, ()), 2), WORDS)
        self.assertEqual(grid_symmetries(Stock(4, ()), 1), WORDS[:3])
        self.assertEqual(grid_symmetries(Stock(1, [("x", "a")]), 1), WORDS)

    def test_grids_that_are_no_square(self):
        self.assertEqual(grid_symmetries(Stock(2, [("x", "aa")]), 1), WORDS[:3])
        self.assertEqual(grid_symmetries(Stock(2, [("x", "ab")]), 2), ("flip",))
        self.assertEqual(grid_symmetries(Stock(2, [("x", "ab")]), 1), ("mirror",))

    def test_names_and_repetitions_do_not_count(self):
        stock = Stock(2, [("x", "ab"), ("y", "ba"), ("z", "ab"), ("w", "ab")])
        self.assertEqual(grid_symmetries(stock, 2), WORDS[:3])
        self.assertEqual(grid_symmetries(stock.without(("y",)), 2), ("flip",))

    def test_against_the_places_of_cells(self):
        some = 0
        for seed in range(300):
            random = Random(seed)
            height, width = random.choice([(2, 2), (2, 2), (3, 3), (2, 3), (3, 1)])
            stamps = [random_stamp(random, height * width, "---ab") for _ in range(random.randrange(0, 3))]
            for word in random.sample(WORDS, 2):
                if height == width or word in WORDS[:3]:
                    stamps += [changed(word, stamp, width) for stamp in stamps]
            stamps = stamps[:24]
            stock = Stock(height * width, [(f"n{k}", stamp) for k, stamp in enumerate(stamps)])
            words = WORDS if height == width else WORDS[:3]
            wanted = tuple(w for w in words if {changed(w, s, width) for s in stamps} == set(stamps))
            some += 0 < len(wanted) < len(words)
            self.assertEqual(grid_symmetries(stock, width), wanted)
            self.assertEqual(turned_stock(stock, width).stamps, tuple(
                (name, changed("quarter", stamp, width)) for name, stamp in stock))
            self.assertEqual(mirrored_stock(stock, width).stamps, tuple(
                (name, changed("mirror", stamp, width)) for name, stamp in stock))
        self.assertGreater(some, 50)
