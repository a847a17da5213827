"""Points 78 and 79: what can be made of ink readings, and nets of rows."""

import unittest
from random import Random

from stampsheets.errors import UnknownName
from stampsheets.inkmaking import ink_making, ink_net
from stampsheets.inks import InkStock
from stampsheets.makings import making
from stampsheets.plaininks import plain_layer, plain_stock
from tests.inkcases import fits_reading, ink_reachable, press_inks, random_ink_pairs, sheets_for
from tests.plain import rows_up_to

INKS = InkStock(2, [("x", (("set", 3), None)), ("y", (("add", 4), ("bleach", 1)))])


class InkMakingTest(unittest.TestCase):
    def test_made(self):
        found = ink_making(INKS, "00", "70")
        self.assertEqual((found.made, found.row, found.places), (True, ("x", "y"), ()))
        self.assertIsInstance(found.row, tuple)
        found = ink_making(seen="--", start="12", inks=INKS)
        self.assertEqual((found.made, found.row, found.places), (True, (), ()))
        self.assertEqual(ink_making(INKS, "0-", "36").row, ("y", "x"))

    def test_not_made(self):
        found = ink_making(INKS, "00", "71")
        self.assertEqual((found.made, found.row), (False, None))
        self.assertEqual(found.places, ((0, 1), (0, 2), (0, 4), (1, 1), (1, 2), (1, 4)))
        found = ink_making(INKS, "00", "76")
        self.assertEqual((found.made, found.row, found.places), (False, None, ((1, 2), (1, 4))))
        found = ink_making(INKS, "00", "1-")
        self.assertEqual((found.made, found.row, found.places), (False, None, ((0, 1), (0, 2), (0, 4))))
        self.assertEqual(ink_making(INKS, "-0", "-2").places, ((1, 2), (1, 4)))
        self.assertEqual(ink_making(InkStock(1, ()), "6", "1").places, ((0, 1), (0, 2), (0, 4)))

    def test_the_empty_stock(self):
        empty = InkStock(1, ())
        self.assertIs(ink_making(empty, "6", "6").made, True)
        self.assertIs(ink_making(empty, "-", "6").made, True)
        self.assertIs(ink_making(empty, "6", "-").made, True)

    def test_against_all_ink_sheets(self):
        refused = 0
        for seed in range(150):
            random = Random(seed)
            pairs = random_ink_pairs(seed, 2, random.randrange(0, 4))
            inks = InkStock(2, pairs)
            start = "".join(random.choice("-0157") for _ in range(2))
            seen = "".join(random.choice("--02567") for _ in range(2))
            found = ink_making(inks, start, seen)
            made = any(fits_reading(sheet, seen) for sheet in ink_reachable(pairs, sheets_for(start)))
            self.assertIs(found.made, made)
            refused += not made
            plain = making(plain_stock(inks), plain_layer(start), plain_layer(seen))
            self.assertEqual(found.row, plain.row)
            self.assertEqual(found.places, tuple((cell // 3, (1, 2, 4)[cell % 3]) for cell in plain.cells))
            if made:
                self.assertEqual(found.places, ())
                self.assertTrue(any(fits_reading(press_inks(pairs, sheet, found.row), seen)
                                    for sheet in sheets_for(start)))
        self.assertGreater(refused, 20)


class InkNetTest(unittest.TestCase):
    def test_ordinary(self):
        self.assertEqual(ink_net(INKS, ("x",)), ((3, 4), (0, 0)))
        self.assertEqual(ink_net(INKS, ["x", "y"]), ((7, 0), (0, 1)))
        self.assertEqual(ink_net(row=("y", "x"), inks=INKS), ((3, 4), (0, 1)))
        self.assertEqual(ink_net(INKS, ()), ((0, 0), (0, 0)))

    def test_unknown_names(self):
        for row, name in [(("x", "q", "p"), "q"), (["no name"], "no name"), (("",), "")]:
            with self.assertRaises(UnknownName) as caught:
                ink_net(INKS, row)
            self.assertEqual(caught.exception.name, name)

    def test_against_all_ink_sheets(self):
        for seed in range(25):
            pairs = random_ink_pairs(seed, 1, 2)
            inks = InkStock(1, pairs)
            rows = rows_up_to("xy", 3)
            made = {row: tuple(press_inks(pairs, sheet, row) for sheet in "01234567") for row in rows}
            for row in rows:
                (on, off), = ink_net(inks, row)
                for colour in (1, 2, 4):
                    bits = {bool(int(sheet) & colour) for sheet in made[row]}
                    self.assertEqual((bool(on & colour), bool(off & colour)), (bits == {True}, bits == {False}))
                for other in rows:
                    self.assertIs(ink_net(inks, row) == ink_net(inks, other), made[row] == made[other])
