"""Points 26 and 27: what lies beneath."""

import unittest

from stampsheets.beneath import beneath_history, marks_beneath, may_be_bare, possible_tops, sure_top
from stampsheets.stocks import Stock
from stampsheets.trailing import trail_history
from stampsheets.trails import Trail
from tests.plain import (
    MARKS, fits, layers_of, leading_rows, press_row, random_pairs, rows_up_to, sheets_fitting,
)

STOCK = Stock(2, [("x", "a-"), ("y", "bb"), ("z", "-c")])


def beneath(pairs, start, seen, cell, longest, signs):
    """Return all marks directly beneath that some short row and some sheet show."""
    stamps = dict(pairs)
    marks = set()
    for row in rows_up_to([name for name, stamp in pairs], longest):
        places = [k for k, name in enumerate(row) if stamps[name][cell] != "-"]
        for sheet in sheets_fitting(start, signs) if places else []:
            if fits(press_row(pairs, sheet, row), seen):
                marks.add(press_row(pairs, sheet, row[:places[-1]])[cell])
    return marks


class BeneathTest(unittest.TestCase):
    def test_ordinary(self):
        self.assertEqual(marks_beneath(STOCK, "..", "ac", 0), (".", "a", "b"))
        self.assertEqual(marks_beneath(STOCK, "q.", "a.", 0), ("a", "q"))
        self.assertEqual(marks_beneath(STOCK, "-.", "a.", 0), tuple(MARKS))
        self.assertEqual(marks_beneath(cell=0, seen="..", start="..", stock=STOCK), ())
        self.assertEqual(beneath_history(STOCK, "..", "ac", 0, "b"), ("..", ("y", "x", "z")))
        self.assertEqual(beneath_history(STOCK, "..", "ac", 0, "."), ("..", ("x", "z")))
        self.assertIsNone(beneath_history(STOCK, "..", "ac", 0, "q"))
        self.assertEqual(beneath_history(mark="q", cell=0, seen="a-", start="--", stock=STOCK), ("q.", ("x",)))

    def test_cells_that_no_stamp_covers(self):
        stock = Stock(2, [("x", "a-")])
        self.assertEqual(marks_beneath(stock, "--", "a-", 1), ())
        self.assertIsNone(beneath_history(stock, "--", "a-", 1, "."))
        self.assertIs(may_be_bare(stock, "--", "a-", 1), True)
        self.assertEqual(possible_tops(stock, "--", "a-", 1), ())
        self.assertIsNone(sure_top(stock, "--", "a-", 1))
        empty = Stock(1, ())
        self.assertEqual(marks_beneath(empty, "-", "-", 0), ())
        self.assertIs(may_be_bare(empty, "a", "b", 0), False)

    def test_tops(self):
        self.assertIs(may_be_bare(STOCK, "..", "ac", 0), False)
        self.assertIs(may_be_bare(STOCK, "a.", "ac", 0), True)
        self.assertEqual(possible_tops(STOCK, "..", "ac", 0), ("x",))
        self.assertEqual(sure_top(STOCK, "..", "ac", 0), "x")
        self.assertIsNone(sure_top(STOCK, "a.", "ac", 0))
        self.assertEqual(possible_tops(STOCK, "..", "-c", 0), ("x", "y"))
        self.assertIsNone(sure_top(STOCK, "..", "-c", 0))
        self.assertEqual(possible_tops(STOCK, "..", "q.", 0), ())
        self.assertIsNone(sure_top(STOCK, "..", "q.", 0))
        self.assertIs(may_be_bare(cell=1, seen="a.", start="..", stock=STOCK), True)
        self.assertEqual(possible_tops(cell=1, seen="bb", start="..", stock=STOCK), ("y",))
        self.assertEqual(sure_top(cell=1, seen="bb", start="..", stock=STOCK), "y")

    def test_equal_stamps(self):
        stock = Stock(1, [("x", "a"), ("y", "a")])
        self.assertEqual(possible_tops(stock, ".", "a", 0), ("x", "y"))
        self.assertIsNone(sure_top(stock, ".", "a", 0))

    def test_the_trail_of_the_history(self):
        for seed in range(40):
            stock = Stock(2, random_pairs(seed, 2, 3))
            for mark in ".ab":
                covering = tuple(name for name, stamp in stock if stamp[1] != "-")
                others = tuple(name for name, stamp in stock if stamp[1] == "-")
                trail = Trail(stock, [
                    ("look", "-a"), ("rows", stock.names), ("look", "-" + mark), ("press", covering),
                    ("rows", others), ("look", "ab"),
                ])
                self.assertEqual(beneath_history(stock, "-a", "ab", 1, mark), trail_history(trail))

    def test_against_all_rows(self):
        for seed in range(8):
            pairs = random_pairs(seed, 2, 3)
            stock = Stock(2, pairs)
            for start in layers_of(2, "-az"):
                for seen in ["ab", "-a", ".-", "--"]:
                    for cell in (0, 1):
                        self.check(pairs, stock, start, seen, cell)

    def check(self, pairs, stock, start, seen, cell):
        rows = leading_rows(pairs, start, seen, 4)
        bare = [row for row in rows if all(dict(pairs)[name][cell] == "-" for name in row)]
        self.assertIs(may_be_bare(stock, start, seen, cell), bool(bare))
        last = {[name for name in row if dict(pairs)[name][cell] != "-"][-1] for row in rows if row not in bare}
        tops = tuple(name for name in "xyz" if name in last)
        self.assertEqual(possible_tops(stock, start, seen, cell), tops)
        self.assertEqual(sure_top(stock, start, seen, cell), tops[0] if len(tops) == 1 and not bare else None)
        # The dot, a and b and the z of the start occur; y speaks for all others.
        marks = beneath(pairs, start, seen, cell, 4, ".abyz")
        wanted = [mark for mark in MARKS if mark in marks or ("b" < mark < "z" and "y" in marks)]
        self.assertEqual(marks_beneath(stock, start, seen, cell), tuple(wanted))
