"""Point 90: desks."""

import unittest
from random import Random

from stampsheets.desks import Desk
from stampsheets.errors import BadCount, BadSheet, CannotMake, DeskFull, NothingToUndo, UnknownName
from stampsheets.makings import making
from stampsheets.shortest import shortest_row
from stampsheets.stocks import Stock
from tests.plain import press_row, random_layer, random_pairs

STOCK = Stock(3, [("x", "aa-"), ("y", "-b-"), ("z", "--c")])


def state(desk):
    return (desk.first_sheet, desk.presses, desk.now)


class DeskTest(unittest.TestCase):
    def setUp(self):
        self.desk = Desk(STOCK, "...")

    def test_a_new_desk(self):
        self.assertEqual(state(self.desk), ("...", (), "..."))
        self.assertEqual(self.desk.stock, STOCK)
        self.assertEqual((len(self.desk), list(self.desk)), (0, []))
        self.assertEqual(state(Desk(sheet="z", stock=Stock(1, ()))), ("z", (), "z"))

    def test_press(self):
        self.assertEqual(self.desk.press("x"), "aa.")
        self.assertEqual(self.desk.press(name="y"), "ab.")
        self.assertEqual(state(self.desk), ("...", ("x", "y"), "ab."))
        self.assertEqual((len(self.desk), list(self.desk), tuple(self.desk)), (2, ["x", "y"], ("x", "y")))
        self.assertIsInstance(self.desk.presses, tuple)

    def test_sheets_that_are_none(self):
        for sheet in ["", "..", "....", "..-", "---", "..A", "any string", "..\n"]:
            with self.assertRaises(BadSheet) as caught:
                Desk(STOCK, sheet)
            self.assertEqual(caught.exception.sheet, sheet)
            self.desk.press("x")
            with self.assertRaises(BadSheet) as caught:
                self.desk.now = sheet
            self.assertEqual(caught.exception.sheet, sheet)
            self.assertEqual(self.desk.now, "aa.")
        self.assertEqual(self.desk.presses, ("x",) * 8)

    def test_a_sheet_laid_anew(self):
        self.desk.press("x")
        self.desk.now = "qq."
        self.assertEqual(state(self.desk), ("qq.", (), "qq."))
        self.desk.press("z")
        self.desk.now = self.desk.now
        self.assertEqual(state(self.desk), ("qqc", (), "qqc"))

    def test_unknown_names(self):
        for name in ["q", "", "no name", "X"]:
            with self.assertRaises(UnknownName) as caught:
                self.desk.press(name)
            self.assertEqual(caught.exception.name, name)
        self.assertEqual(state(self.desk), ("...", (), "..."))

    def test_a_full_desk(self):
        for count in range(59):
            self.desk.press("xyz"[count % 3])
        self.assertEqual(len(self.desk), 59)
        self.desk.press("z")
        before = state(self.desk)
        self.assertEqual(len(self.desk), 60)
        with self.assertRaises(DeskFull):
            self.desk.press("x")
        with self.assertRaises(UnknownName):
            self.desk.press("q")
        self.assertEqual(state(self.desk), before)
        self.desk.undo()
        self.assertEqual(self.desk.press("x"), "aac")
        self.assertEqual(len(self.desk), 60)

    def test_undo(self):
        for name in "xyz":
            self.desk.press(name)
        self.assertEqual([self.desk.undo(), self.desk.undo()], ["z", "y"])
        self.assertEqual(state(self.desk), ("...", ("x",), "aa."))
        self.assertEqual(self.desk.undo(), "x")
        with self.assertRaises(NothingToUndo):
            self.desk.undo()
        self.assertEqual(state(self.desk), ("...", (), "..."))

    def test_back_to(self):
        for name in "xyzx":
            self.desk.press(name)
        self.assertEqual(self.desk.back_to(4), "aac")
        self.assertEqual(self.desk.back_to(count=2), "ab.")
        for count in [-1, 3, 99, -60]:
            with self.assertRaises(BadCount) as caught:
                self.desk.back_to(count)
            self.assertEqual(caught.exception.count, count)
        self.assertEqual(state(self.desk), ("...", ("x", "y"), "ab."))
        self.assertEqual(self.desk.back_to(0), "...")
        self.assertEqual(self.desk.back_to(0), "...")
        self.assertEqual(len(self.desk), 0)

    def test_make(self):
        self.assertEqual(self.desk.make("ab-"), ("x", "y"))
        self.assertEqual(state(self.desk), ("...", ("x", "y"), "ab."))
        self.assertEqual(self.desk.make(layer="-bc"), ("z",))
        self.assertEqual(self.desk.make("abc"), ())
        self.assertEqual(state(self.desk), ("...", ("x", "y", "z"), "abc"))

    def test_what_cannot_be_made(self):
        self.desk.press("z")
        for layer, cells in [("..c", ()), ("ba-", (0, 1)), ("--.", (2,)), ("qb.", (0, 2))]:
            if cells:
                with self.assertRaises(CannotMake) as caught:
                    self.desk.make(layer)
                self.assertEqual(caught.exception.cells, cells)
                self.assertEqual(making(STOCK, "..c", layer).cells, cells)
        self.assertEqual(state(self.desk), ("...", ("z",), "..c"))

    def test_making_on_a_full_desk(self):
        for _ in range(58):
            self.desk.press("z")
        self.assertEqual(self.desk.make("aa-"), ("x",))
        self.desk.undo()
        self.assertEqual(self.desk.make("ab-"), ("x", "y"))
        self.desk.back_to(59)
        before = state(self.desk)
        self.desk.now = "..."
        for _ in range(59):
            self.desk.press("z")
        before = state(self.desk)
        with self.assertRaises(DeskFull):
            self.desk.make("ab-")
        with self.assertRaises(CannotMake):
            self.desk.make("qbc")
        self.assertEqual(state(self.desk), before)
        self.assertEqual(self.desk.make("..c"), ())
        self.assertEqual(self.desk.make("aac"), ("x",))
        self.assertEqual(self.desk.make("aac"), ())
        self.assertEqual(len(self.desk), 60)

    def test_equal(self):
        other = Desk(STOCK, "...")
        self.assertIs(self.desk == self.desk, True)
        self.assertIs(self.desk == other, False)
        self.assertIs(self.desk != other, True)
        for value in [None, STOCK, "...", ()]:
            self.assertIs(self.desk == value, False)

    def test_two_desks_do_not_disturb_each_other(self):
        other = Desk(STOCK, "...")
        self.desk.press("x")
        self.assertEqual((len(other), other.now), (0, "..."))

    def test_values_given_before_stay(self):
        self.desk.press("x")
        row, sheet = self.desk.presses, self.desk.now
        self.desk.press("y")
        self.assertEqual((row, sheet), (("x",), "aa."))
        for name in self.desk:
            self.desk.press(name)
        self.assertEqual(self.desk.presses, ("x", "y", "x", "y"))

    def test_against_a_list_of_presses(self):
        for seed in range(60):
            random = Random(seed)
            pairs = random_pairs(seed, 3, 3)
            stock = Stock(3, pairs)
            first, row = random_layer(random, 3, "ab.z"), ()
            desk = Desk(stock, first)
            for _ in range(40):
                first, row = self.deed(random, stock, desk, first, row)
                self.assertEqual(state(desk), (first, row, press_row(pairs, first, row)))
                self.assertEqual((len(desk), tuple(desk)), (len(row), row))

    def deed(self, random, stock, desk, first, row):
        kind = random.choice(["press", "press", "press", "undo", "back", "make", "now"])
        sheet = press_row(stock.stamps, first, row)
        if kind == "press" and len(row) < 60:
            name = random.choice("xyz")
            self.assertEqual(desk.press(name), press_row(stock.stamps, sheet, [name]))
            return first, row + (name,)
        if kind == "undo" and row:
            self.assertEqual(desk.undo(), row[-1])
            return first, row[:-1]
        if kind == "back":
            count = random.randrange(len(row) + 1)
            self.assertEqual(desk.back_to(count), press_row(stock.stamps, first, row[:count]))
            return first, row[:count]
        if kind == "make":
            layer = random_layer(random, 3, "-ab.")
            more = shortest_row(stock, sheet, layer)
            if more is None:
                with self.assertRaises(CannotMake):
                    desk.make(layer)
                return first, row
            self.assertEqual(desk.make(layer), more)
            return first, row + more
        if kind == "now" and random.random() < 0.2:
            first = random_layer(random, 3, "ab.z")
            desk.now = first
            return first, ()
        return first, row
