"""Point 82: piles of sheets."""

import unittest
from itertools import product
from random import Random

from stampsheets.errors import UnknownName
from stampsheets.makings import making
from stampsheets.piles import pile_layer, pile_parts, pile_sheets, pile_stock
from stampsheets.rows import pressed
from stampsheets.stocks import Stock
from tests.plain import over, random_layer, random_pairs

STOCK = Stock(2, [("x", "a-"), ("longer", "bc")])


class PilesTest(unittest.TestCase):
    def test_stock(self):
        self.assertEqual(pile_stock(STOCK, 2), Stock(4, [
            ("xx1", "a---"), ("xx2", "a-a-"), ("longerx1", "bc--"), ("longerx2", "bcbc"),
        ]))
        self.assertEqual(pile_stock(depth=1, stock=STOCK), Stock(2, [("xx1", "a-"), ("longerx1", "bc")]))
        four = pile_stock(STOCK, 4)
        self.assertEqual((four.size, four.names[3], four.stamp("xx3")), (8, "xx4", "a-a-a---"))
        self.assertEqual(pile_stock(Stock(7, ()), 4), Stock(28, ()))

    def test_largest(self):
        many = Stock(7, [(f"n{k}", "-" * k + "a" + "-" * (6 - k)) for k in range(6)])
        self.assertEqual(len(pile_stock(many, 4)), 24)
        self.assertEqual(pile_stock(Stock(30, [("x", "a" * 30)]), 1).stamps, (("xx1", "a" * 30),))
        self.assertEqual(pile_stock(Stock(10, [("x", "a" * 10)]), 3).stamp("xx3"), "a" * 30)

    def test_names_that_look_like_others(self):
        stock = Stock(1, [("x", "a"), ("xx1", "b")])
        self.assertEqual(pile_stock(stock, 2).names, ("xx1", "xx2", "xx1x1", "xx1x2"))

    def test_layers_and_parts(self):
        self.assertEqual(pile_layer(["a-", "-b", ".."]), "a--b..")
        self.assertEqual(pile_layer(layers=("a-",)), "a-")
        self.assertEqual(pile_parts("a--b..", 3), ("a-", "-b", ".."))
        self.assertEqual(pile_parts(depth=1, layer="a--b.."), ("a--b..",))
        self.assertEqual(pile_parts("a--b", 4), ("a", "-", "-", "b"))
        self.assertEqual(pile_layer(pile_parts("-" * 30, 2)), "-" * 30)

    def test_sheets(self):
        self.assertEqual(pile_sheets(STOCK, ["..", "..", ".."], [("longer", 2), ("x", 1)]), ("ac", "bc", ".."))
        self.assertEqual(pile_sheets(row=[["x", 3]], sheets=("..", "q.", "zz"), stock=STOCK), ("a.", "a.", "az"))
        self.assertEqual(pile_sheets(STOCK, ["qq"], ()), ("qq",))
        self.assertEqual(pile_sheets(STOCK, ["q"*2] * 4, (("x", 4), ("longer", 1))), ("bc", "aq", "aq", "aq"))

    def test_unknown_names(self):
        for row, name in [([("x", 1), ("q", 1), ("p", 2)], "q"), ([["no name", 1]], "no name"), ([("", 2)], "")]:
            with self.assertRaises(UnknownName) as caught:
                pile_sheets(STOCK, ["..", ".."], row)
            self.assertEqual(caught.exception.name, name)

    def test_later_changes(self):
        sheets = ["..", ".."]
        made = pile_sheets(STOCK, sheets, ())
        sheets[0] = "qq"
        self.assertEqual(made, ("..", ".."))

    def test_against_all_rows(self):
        for seed in range(30):
            pairs = random_pairs(seed, 2, 2)
            stock = Stock(2, pairs)
            random = Random(seed)
            depth = random.randrange(1, 4)
            sheets = [random_layer(random, 2, "ab.z") for _ in range(depth)]
            for row in [row for many in range(3) for row in product(product("xy", range(1, depth + 1)), repeat=many)]:
                wanted = [sheet for sheet in sheets]
                for name, strength in row:
                    wanted = [over(sheet, dict(pairs)[name]) if k < strength else sheet
                              for k, sheet in enumerate(wanted)]
                self.assertEqual(pile_sheets(stock, sheets, row), tuple(wanted))
                names = [name + "x" + str(strength) for name, strength in row]
                made = pressed(pile_stock(stock, depth), pile_layer(sheets), names)
                self.assertEqual(pile_parts(made, depth), tuple(wanted))

    def test_what_can_be_made_of_a_pile(self):
        pile = pile_stock(Stock(1, [("x", "a"), ("y", "b")]), 2)
        self.assertEqual(making(pile, "..", "ab").row, ("yx2", "xx1"))
        self.assertIs(making(pile, "..", ".a").made, False)
