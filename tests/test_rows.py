"""Point 10: rows."""

import unittest

from stampsheets.errors import UnknownName
from stampsheets.rows import last_covers, net_stamp, parting_sheet, pressed, seen_presses, seen_row, stages
from stampsheets.stocks import Stock
from tests.plain import layers_of, press_row, random_pairs, rows_up_to

STOCK = Stock(3, [("x", "aa-"), ("y", "-b."), ("z", "aa-")])


class RowsTest(unittest.TestCase):
    def test_pressed(self):
        self.assertEqual(pressed(STOCK, "...", ["x", "y"]), "ab.")
        self.assertEqual(pressed(STOCK, "--c", ("y", "x")), "aa.")
        self.assertEqual(pressed(STOCK, "c-c", ()), "c-c")
        self.assertEqual(pressed(STOCK, "---", ["y", "x"] * 30), "aa.")
        self.assertEqual(pressed(row=["x"], layer="---", stock=STOCK), "aa-")

    def test_net_stamp(self):
        self.assertEqual(net_stamp(STOCK, ("x", "y")), "ab.")
        self.assertEqual(net_stamp(STOCK, []), "---")
        self.assertEqual(net_stamp(Stock(30, ()), ()), "-" * 30)
        self.assertEqual(net_stamp(row=("y",), stock=STOCK), "-b.")

    def test_net_stamp_does_the_same(self):
        for seed in range(20):
            pairs = random_pairs(seed, 2, 3)
            for row in rows_up_to("xyz", 3):
                net = net_stamp(Stock(2, pairs), row)
                for sheet in layers_of(2, ".abz"):
                    self.assertEqual(press_row(pairs, sheet, row), press_row((("n", net),), sheet, ("n",)))

    def test_stages(self):
        self.assertEqual(list(stages(STOCK, "...", ["x", "y"])), ["...", "aa.", "ab."])
        self.assertEqual(list(stages(row=(), layer="-a-", stock=STOCK)), ["-a-"])

    def test_stages_begins_with_the_first_item(self):
        asked = stages(STOCK, "...", ["x", "q"])
        with self.assertRaises(UnknownName) as caught:
            next(asked)
        self.assertEqual(caught.exception.name, "q")
        row = ["x"]
        asked = stages(STOCK, "...", row)
        row.append("y")
        self.assertEqual(next(asked), "...")
        row.clear()
        self.assertEqual(list(asked), ["aa.", "ab."])

    def test_last_covers(self):
        self.assertEqual(last_covers(STOCK, ["x", "y", "x"]), (2, 2, 1))
        self.assertEqual(last_covers(STOCK, ("y",)), (None, 0, 0))
        self.assertEqual(last_covers(STOCK, ()), (None, None, None))
        self.assertEqual(last_covers(row=["x"] * 60, stock=STOCK), (59, 59, None))

    def test_seen(self):
        self.assertEqual(seen_presses(STOCK, ["x", "y", "z", "x"]), (1, 3))
        self.assertEqual(seen_row(STOCK, ["x", "y", "z", "x"]), ("y", "x"))
        self.assertEqual(seen_presses(STOCK, []), ())
        self.assertEqual(seen_row(STOCK, ()), ())
        self.assertEqual(seen_presses(row=("x", "y"), stock=STOCK), (0, 1))
        self.assertEqual(seen_row(row=("x", "y"), stock=STOCK), ("x", "y"))

    def test_seen_row_has_the_same_net(self):
        for seed in range(20):
            stock = Stock(3, random_pairs(seed, 3, 3))
            for row in rows_up_to("xyz", 4):
                self.assertEqual(net_stamp(stock, seen_row(stock, row)), net_stamp(stock, row))
                last = [place for place in last_covers(stock, row) if place is not None]
                self.assertEqual(seen_presses(stock, row), tuple(sorted(set(last))))

    def test_parting_sheet(self):
        stock = Stock(3, [("x", "-.-"), ("y", "-a-"), ("z", "--b"), ("w", "..-"), ("v", ".b-")])
        self.assertIsNone(parting_sheet(stock, ("x", "z"), ["z", "x"]))
        self.assertIsNone(parting_sheet(stock, (), ()))
        self.assertEqual(parting_sheet(stock, ("x",), ()), ".a.")
        self.assertEqual(parting_sheet(stock, (), ("x",)), ".a.")
        self.assertEqual(parting_sheet(stock, ("x",), ("y",)), "...")
        self.assertEqual(parting_sheet(stock, (), ("z",)), "...")
        self.assertEqual(parting_sheet(two=("w",), one=("v",), stock=stock), "...")
        self.assertEqual(parting_sheet(stock, ("x",), ("w",)), "a..")

    def test_parting_sheet_parts(self):
        for seed in range(30):
            pairs = random_pairs(seed, 2, 3)
            for one in rows_up_to("xyz", 2):
                for two in rows_up_to("xyz", 2):
                    sheet = parting_sheet(Stock(2, pairs), one, two)
                    if sheet is None:
                        self.assertEqual(press_row(pairs, "--", one), press_row(pairs, "--", two))
                    else:
                        self.assertNotEqual(press_row(pairs, sheet, one), press_row(pairs, sheet, two))

    def test_unknown_names(self):
        for call in [
            lambda row: pressed(STOCK, "...", row), lambda row: net_stamp(STOCK, row),
            lambda row: last_covers(STOCK, row), lambda row: seen_presses(STOCK, row),
            lambda row: seen_row(STOCK, row), lambda row: parting_sheet(STOCK, row, ("v",)),
            lambda row: parting_sheet(STOCK, ("x",), row), lambda row: list(stages(STOCK, "...", row)),
        ]:
            with self.assertRaises(UnknownName) as caught:
                call(["x", "no name", "w"])
            self.assertEqual(caught.exception.name, "no name")
