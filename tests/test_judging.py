"""Point 48: judging a comparison."""

import unittest

from stampsheets.comparing import compare_stocks
from stampsheets.errors import SizesDiffer
from stampsheets.inners import stamp_making
from stampsheets.judging import is_comparison
from stampsheets.stocks import Stock
from tests.plain import random_pairs

# Two makes all of one, but one does not make y.
ONE = Stock(2, [("x", "ab"), ("w", "-b")])
TWO = Stock(2, [("y", "a-"), ("w", "-b"), ("v", "c-")])
INSIDE = ("inside", (("y", "w"), ("w",)), (None, ("w",), None), None, "y", "zz", (), (0,))
AROUND = ("around", (None, ("w",), None), (("y", "w"), ("w",)), "y", None, "zz", (0,), ())
ALIKE = ("alike", (("x",), ("w",)), (("x",), ("w",)), None, None, None, (), ())

# Neither makes all of the other one.
THREE = Stock(2, [("x", "ab"), ("w", "-b"), ("q", "q-"), ("p", "-p")])
APART = ("apart", (("y", "w"), ("w",), None, None), (None, ("w",), None), "q", "y", "zz", (0,), (0,))

WORD, ROWS, OTHER_ROWS, MISSING, OTHER_MISSING, SHEET, CELLS, OTHER_CELLS = range(8)


def changed(comparison, **items):
    told = list(comparison)
    for name, value in items.items():
        told[globals()[name]] = value
    return tuple(told)


def own_comparison(one, two):
    """Return what `compare_stocks` says, with refusals for what is missing."""
    found = compare_stocks(one, two)
    cells, other_cells = (), ()
    if found.missing is not None:
        cells = stamp_making(two, one.stamp(found.missing)).cells
    if found.other_missing is not None:
        other_cells = stamp_making(one, two.stamp(found.other_missing)).cells
    return (found.word, found.rows, found.other_rows, found.missing, found.other_missing, found.sheet,
            cells, other_cells)


class JudgingTest(unittest.TestCase):
    def right(self, one, two, comparison):
        self.assertIs(is_comparison(one, two, comparison), True, comparison)

    def wrong(self, one, two, comparison):
        self.assertIs(is_comparison(one, two, comparison), False, comparison)

    def test_right(self):
        self.right(ONE, TWO, INSIDE)
        self.right(TWO, ONE, AROUND)
        self.right(ONE, ONE, ALIKE)
        self.right(THREE, TWO, APART)
        self.assertIs(is_comparison(comparison=list(INSIDE), two=TWO, one=ONE), True)

    def test_own_comparisons(self):
        words = set()
        for seed in range(200):
            signs = ["--a", "-ab"][seed % 2]
            one, two = Stock(2, random_pairs(seed, 2, 2, signs)), Stock(2, random_pairs(seed + 1000, 2, 3, signs))
            told = own_comparison(one, two)
            self.right(one, two, told)
            words.add(told[WORD])
            for word in ("alike", "inside", "around", "apart"):
                if word != told[WORD]:
                    self.wrong(one, two, changed(told, WORD=word))
        self.assertEqual(len(words), 4)

    def test_word(self):
        self.wrong(ONE, ONE, changed(ALIKE, WORD="same"))
        self.wrong(ONE, ONE, changed(ALIKE, WORD=""))
        self.wrong(THREE, TWO, changed(APART, WORD="Apart"))

    def test_number_of_rows(self):
        self.wrong(ONE, TWO, changed(INSIDE, ROWS=(("y", "w"),)))
        self.wrong(ONE, TWO, changed(INSIDE, ROWS=INSIDE[ROWS] + (("w",),)))
        self.wrong(ONE, TWO, changed(INSIDE, OTHER_ROWS=(None, ("w",))))
        self.wrong(ONE, TWO, changed(INSIDE, OTHER_ROWS=(None, ("w",), None, None)))
        self.wrong(TWO, ONE, changed(AROUND, ROWS=()))

    def test_rows_with_another_net_stamp(self):
        for row in [("y",), (), ("w",), ("v", "w"), ("y", "w", "v")]:
            self.wrong(ONE, TWO, changed(INSIDE, ROWS=(row, ("w",))))
        for row in [("w",), ("x",), ()]:
            self.wrong(ONE, TWO, changed(INSIDE, OTHER_ROWS=(row, ("w",), None)))
            self.wrong(TWO, ONE, changed(AROUND, ROWS=(None, ("w",), row)))

    def test_rows_with_unknown_names(self):
        for row in [("q",), ("no name", "y", "w"), ("x",), ("y", "w", "")]:
            self.wrong(ONE, TWO, changed(INSIDE, ROWS=(row, ("w",))))
        self.wrong(ONE, TWO, changed(INSIDE, OTHER_ROWS=(None, ("w", "v"), None)))

    def test_other_rows_than_the_own_ones(self):
        self.right(ONE, TWO, changed(INSIDE, ROWS=(("w", "y"), ["w"] * 60)))
        self.right(ONE, TWO, changed(INSIDE, ROWS=[["v", "w", "y"], ["w", "w"]]))
        self.right(ONE, TWO, changed(INSIDE, OTHER_ROWS=(None, ("w", "w"), None)))

    def test_missing_is_none_exactly_for_these_words(self):
        self.wrong(ONE, TWO, changed(INSIDE, MISSING="x", CELLS=(0,)))
        self.wrong(ONE, TWO, changed(INSIDE, OTHER_MISSING=None))
        self.wrong(TWO, ONE, changed(AROUND, MISSING=None))
        self.wrong(TWO, ONE, changed(AROUND, OTHER_MISSING="x", OTHER_CELLS=(0,)))
        self.wrong(ONE, ONE, changed(ALIKE, MISSING="x"))
        self.wrong(ONE, ONE, changed(ALIKE, OTHER_MISSING="x"))
        self.wrong(THREE, TWO, changed(APART, MISSING=None))
        self.wrong(THREE, TWO, changed(APART, OTHER_MISSING=None))

    def test_missing_where_nothing_is_missing(self):
        # The stamp q is missing, so its refusal would hold, but the word says that nothing is.
        one = Stock(2, [("q", "q-")])
        empty = Stock(2, ())
        told = ("around", (None,), (), "q", None, "zz", (0,), ())
        self.right(one, empty, told)
        self.wrong(one, empty, changed(told, WORD="alike"))
        self.wrong(one, empty, changed(told, WORD="alike", MISSING=None))
        self.wrong(one, empty, changed(told, WORD="inside"))

    def test_rows_without_none_where_nothing_is_missing(self):
        self.wrong(ONE, TWO, changed(INSIDE, ROWS=(("y", "w"), None)))
        self.wrong(ONE, TWO, changed(INSIDE, ROWS=(None, ("w",))))
        self.wrong(TWO, ONE, changed(AROUND, OTHER_ROWS=(None, ("w",))))
        self.wrong(ONE, ONE, changed(ALIKE, ROWS=(None, ("w",))))
        self.wrong(ONE, ONE, changed(ALIKE, OTHER_ROWS=(("x",), None)))

    def test_none_anywhere_while_something_is_missing(self):
        self.right(ONE, TWO, changed(INSIDE, OTHER_ROWS=(None, None, None)))
        self.right(THREE, TWO, changed(APART, ROWS=(None,) * 4, OTHER_ROWS=[None] * 3))

    def test_missing_is_a_name_of_the_own_stock(self):
        for name in ["y", "v", "no name", ""]:
            self.wrong(THREE, TWO, changed(APART, MISSING=name))
        for name in ["q", "x", "no name", ""]:
            self.wrong(THREE, TWO, changed(APART, OTHER_MISSING=name))

    def test_missing_need_not_be_the_first(self):
        self.right(THREE, TWO, changed(APART, MISSING="p", CELLS=(1,)))
        self.right(THREE, TWO, changed(APART, OTHER_MISSING="v"))
        self.right(ONE, TWO, changed(INSIDE, OTHER_MISSING="v"))

    def test_cells_are_a_refusal(self):
        for cells in [(), (1,), (0, 1)]:
            self.wrong(THREE, TWO, changed(APART, CELLS=cells))
            self.wrong(THREE, TWO, changed(APART, OTHER_CELLS=cells))
            self.wrong(ONE, TWO, changed(INSIDE, OTHER_CELLS=cells))
            self.wrong(TWO, ONE, changed(AROUND, CELLS=cells))
        self.right(THREE, TWO, changed(APART, CELLS=[0, 0], OTHER_CELLS=[0, 0, 0]))
        # x is made by the other stock, so nothing refuses it.
        for cells in [(0,), (1,), (0, 1)]:
            self.wrong(THREE, TWO, changed(APART, MISSING="x", CELLS=cells))

    def test_sheet(self):
        self.right(THREE, TWO, changed(APART, SHEET="dd"))
        for sheet in [None, "az", "zb", "qz", "zp", "cz"]:
            self.wrong(THREE, TWO, changed(APART, SHEET=sheet))
        self.right(THREE, TWO, changed(APART, SHEET="ba"))
        self.wrong(ONE, TWO, changed(INSIDE, SHEET=None))
        self.wrong(TWO, ONE, changed(AROUND, SHEET="cz"))

    def test_what_may_be_anything(self):
        for sheet in [None, "ab", "zz"]:
            self.right(ONE, ONE, changed(ALIKE, SHEET=sheet))
        for cells in [(), (0,), [1, 1, 0]]:
            self.right(ONE, ONE, changed(ALIKE, CELLS=cells, OTHER_CELLS=cells))
            self.right(ONE, TWO, changed(INSIDE, CELLS=cells))
            self.right(TWO, ONE, changed(AROUND, OTHER_CELLS=cells))

    def test_empty_stocks(self):
        empty = Stock(2, ())
        self.right(empty, empty, ("alike", (), (), None, None, None, (), ()))
        self.wrong(empty, empty, ("inside", (), (), None, None, None, (), ()))
        self.right(empty, TWO, ("inside", (), (None,) * 3, None, "v", "zz", (), (0,)))

    def test_sizes_differ(self):
        for told in [ALIKE, changed(ALIKE, WORD="same"), changed(ALIKE, ROWS=())]:
            with self.assertRaises(SizesDiffer) as caught:
                is_comparison(ONE, Stock(3, ()), told)
            self.assertEqual((caught.exception.one, caught.exception.two), (2, 3))
