"""Points 84 and 85: shapes, placings, and stocks of placings."""

import unittest
from random import Random

from stampsheets.errors import BadName, BadShape, NameTaken
from stampsheets.shapes import grid_stock, is_shape, placed, placings, shape_turns
from stampsheets.stocks import Stock

ELL = ("a-", "ab")


class IsShapeTest(unittest.TestCase):
    def test_right(self):
        for value in [["a"], ("-a", "b."), ["."], ("a",) * 40, ["z" * 50], ["-" * 9 + "a"], ("-", "-", "q")]:
            self.assertIs(is_shape(value), True, value)
        self.assertIs(is_shape(value=ELL), True)

    def test_wrong(self):
        for value in [
            (), [], [""], ["", ""], ["-"], ["---", "---"], ["ab", "a"], ["a", "ab"], ["a", ""], ["", "a"], ["A"],
            ["a b"], ["a\n"], ["ab", "a_"], ["a1"], ["ab", "cd", "efg"], ["%"],
        ]:
            self.assertIs(is_shape(value), False, value)


class PlacedTest(unittest.TestCase):
    def test_ordinary(self):
        self.assertEqual(placed(ELL, 3, 3, 0, 0), "a--ab----")
        self.assertEqual(placed(ELL, 3, 3, 1, 1), "----a--ab")
        self.assertEqual(placed(column=1, row=0, width=3, height=2, shape=["a-", "ab"]), "-a--ab")
        self.assertEqual(placed(["a"], 1, 1, 0, 0), "a")
        self.assertEqual(placed(["a.b"], 2, 3, 1, 0), "---a.b")

    def test_not_within(self):
        for row, column in [(-1, 0), (0, -1), (2, 0), (0, 2), (3, 3), (99, 0), (-5, -5), (2, 2)]:
            self.assertIsNone(placed(ELL, 3, 3, row, column))
        # The dashes of the shape count, too.
        self.assertIsNone(placed(["-a"], 1, 1, 0, -1))
        self.assertIsNone(placed(["a", "-"], 1, 1, 0, 0))
        self.assertIsNone(placed(["a" * 31], 1, 30, 0, 0))
        self.assertIsNone(placed(["a"] * 31, 30, 1, 0, 0))

    def test_every_cell(self):
        for seed in range(200):
            random = Random(seed)
            height, width = random.randrange(1, 6), random.randrange(1, 7)
            shape = self.shape(random)
            row, column = random.randrange(-2, 5), random.randrange(-2, 6)
            within = 0 <= row and 0 <= column and row + len(shape) <= height and column + len(shape[0]) <= width
            layer = placed(shape, height, width, row, column)
            self.assertIs(layer is not None, within)
            for at in range(height * width if within else 0):
                r, c = at // width - row, at % width - column
                inside = 0 <= r < len(shape) and 0 <= c < len(shape[0])
                self.assertEqual(layer[at], shape[r][c] if inside else "-")

    def shape(self, random):
        width = random.randrange(1, 4)
        height = random.randrange(1, 4)
        return tuple("a" + "".join(random.choice("-ab") for _ in range(width - 1)) for _ in range(height))


class PlacingsTest(unittest.TestCase):
    def test_ordinary(self):
        self.assertEqual(placings(ELL, 3, 2), ("a-ab--", "--a-ab"))
        self.assertEqual(placings(["a"], 2, 2), ("a---", "-a--", "--a-", "---a"))
        self.assertEqual(placings(width=3, height=1, shape=["ab"]), ("ab-", "-ab"))
        self.assertEqual(placings(["ab"], 2, 3), ("ab----", "-ab---", "---ab-", "----ab"))

    def test_shapes_that_do_not_fit(self):
        self.assertEqual(placings(ELL, 1, 30), ())
        self.assertEqual(placings(ELL, 30, 1), ())
        self.assertEqual(placings(["a" * 99], 5, 6), ())
        self.assertEqual(placings(["a" * 6] * 5, 5, 6), ("a" * 30,))


class ShapeTurnsTest(unittest.TestCase):
    def test_ordinary(self):
        self.assertEqual(shape_turns(ELL), (("a-", "ab"), ("aa", "b-"), ("ba", "-a"), ("-b", "aa")))
        self.assertEqual(shape_turns(shape=["ab"]), (("ab",), ("a", "b"), ("ba",), ("b", "a")))

    def test_turns_that_give_the_same_again(self):
        self.assertEqual(shape_turns(["a"]), (("a",),))
        self.assertEqual(shape_turns(["aa"]), (("aa",), ("a", "a")))
        self.assertEqual(shape_turns(["a-", "-a"]), (("a-", "-a"), ("-a", "a-")))
        self.assertEqual(shape_turns(["aa", "aa"]), (("aa", "aa"),))
        self.assertEqual(shape_turns(["abc", "-.-"]), (("abc", "-.-"), ("-a", ".b", "-c"), ("-.-", "cba"),
                                                       ("c-", "b.", "a-")))

    def test_large_shapes(self):
        self.assertEqual(shape_turns(["a" * 40]), (("a" * 40,), ("a",) * 40))


class GridStockTest(unittest.TestCase):
    def test_ordinary(self):
        stock = grid_stock(2, 2, [("dot", ["a"]), ("bar", ["bb"])])
        self.assertEqual(stock, Stock(4, [
            ("dot0", "a---"), ("dot1", "-a--"), ("dot2", "--a-"), ("dot3", "---a"), ("bar0", "bb--"), ("bar1", "--bb"),
        ]))
        self.assertEqual(grid_stock(1, 1, ()), Stock(1, ()))
        self.assertEqual(grid_stock(shapes=[["x", ["ab"]]], width=2, height=1), Stock(2, [("x0", "ab")]))

    def test_turns(self):
        shapes = [("bar", ["ab"])]
        self.assertEqual(grid_stock(2, 2, shapes, turns=False), grid_stock(2, 2, shapes))
        self.assertEqual(grid_stock(2, 2, shapes, turns=True), Stock(4, [
            ("bar0", "ab--"), ("bar1", "--ab"), ("bar2", "a-b-"), ("bar3", "-a-b"),
            ("bar4", "ba--"), ("bar5", "--ba"), ("bar6", "b-a-"), ("bar7", "-b-a"),
        ]))
        with self.assertRaises(TypeError):
            grid_stock(2, 2, shapes, True)

    def test_layers_that_are_there_already(self):
        # The same pair gives a layer once, another pair may give it again.
        shapes = [("p", ["aa"]), ("q", ["a", "a"]), ("r", ["a-"]), ("s", ["a"])]
        self.assertEqual(grid_stock(1, 2, shapes, turns=True), Stock(2, [
            ("p0", "aa"), ("q0", "aa"), ("r0", "a-"), ("r1", "-a"), ("s0", "a-"), ("s1", "-a"),
        ]))
        # The shapes ("a-",) and ("-a",) are two, but ("a-", "--") and its turns give one layer for each cell.
        self.assertEqual(grid_stock(2, 2, [("x", ["a-", "--"])], turns=True), Stock(4, [
            ("x0", "a---"), ("x1", "-a--"), ("x2", "---a"), ("x3", "--a-"),
        ]))
        self.assertEqual(len(grid_stock(3, 3, [("x", ["a-", "--"])], turns=True)), 9)
        self.assertEqual(len(grid_stock(3, 3, [("x", ["a-", "--"])])), 4)

    def test_shapes_that_do_not_fit(self):
        self.assertEqual(grid_stock(1, 2, [("x", ["abc"]), ("y", ["a"])]), Stock(2, [("y0", "a-"), ("y1", "-a")]))
        self.assertEqual(grid_stock(1, 3, [("x", ["a", "b", "c"])], turns=True),
                         Stock(3, [("x0", "cba"), ("x1", "abc")]))

    def test_many_placings(self):
        stock = grid_stock(4, 6, [("sixsix", ["a"])])
        self.assertEqual((len(stock), stock.names[23], stock.stamp("sixsix23")), (24, "sixsix23", "-" * 23 + "a"))

    def test_bad_names(self):
        for name in ["", "seven77", "sevenss", "X", "1x", "a b", "x-"]:
            for shape in (["a"], [], ["--"]):
                with self.assertRaises(BadName) as caught:
                    grid_stock(2, 2, [("x", ["a"]), (name, shape)])
                self.assertEqual(caught.exception.index, 1)

    def test_bad_shapes(self):
        for shape in [(), [""], ["--"], ["a", "ab"], ["A"]]:
            with self.assertRaises(BadShape) as caught:
                grid_stock(2, 2, [("x", ["a"]), ("x", shape), ("", ["a"])])
            self.assertEqual(caught.exception.index, 1)

    def test_names_taken_come_behind_the_last_pair(self):
        for last, kind in [(("", ["a"]), BadName), (("z", ["-"]), BadShape)]:
            with self.assertRaises(kind) as caught:
                grid_stock(2, 2, [("x", ["a"]), ("x", ["a"]), last])
            self.assertEqual(caught.exception.index, 2)
        with self.assertRaises(NameTaken) as caught:
            grid_stock(1, 1, [("x", ["a"]), ("y", ["aaa"]), ("y", ["a"]), ("x", ["a"])], turns=True)
        self.assertEqual(caught.exception.name, "y")
        with self.assertRaises(NameTaken):
            # Even if nothing of it can be placed.
            grid_stock(1, 1, [("x", ["aaa"]), ("x", ["aaa"])])
