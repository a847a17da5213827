"""Point 83: layers drawn as grids."""

import unittest

from stampsheets.grids import grid_layer, grid_rows, mirrored, turned


class GridsTest(unittest.TestCase):
    def test_rows(self):
        self.assertEqual(grid_rows("ab-c.d", 3), ("ab-", "c.d"))
        self.assertEqual(grid_rows(width=2, layer="ab-c.d"), ("ab", "-c", ".d"))
        self.assertEqual(grid_rows("ab", 1), ("a", "b"))
        self.assertEqual(grid_rows("ab", 2), ("ab",))
        self.assertEqual(grid_layer(["ab-", "c.d"]), "ab-c.d")
        self.assertEqual(grid_layer(rows=("a",)), "a")
        self.assertEqual(grid_layer(("a", "b", "-")), "ab-")

    def test_turned(self):
        self.assertEqual(turned("abcdef", 3), "daebfc")
        self.assertEqual(turned(width=2, layer="abcdef"), "ecafdb")
        self.assertEqual(turned("abc", 3), "abc")
        self.assertEqual(turned("abc", 1), "cba")
        self.assertEqual(turned("-", 1), "-")

    def test_mirrored(self):
        self.assertEqual(mirrored("abcdef", 3), "cbafed")
        self.assertEqual(mirrored(width=2, layer="abcdef"), "badcfe")
        self.assertEqual(mirrored("abc", 3), "cba")
        self.assertEqual(mirrored("abc", 1), "abc")

    def test_every_cell(self):
        signs = ".abcdefghijklmnopqrstuvwxyz---"
        sizes = [(1, 1), (1, 5), (5, 1), (2, 3), (3, 2), (5, 6), (6, 5), (3, 10), (30, 1), (1, 30), (4, 4)]
        for height, width in sizes:
            layer = signs[:height * width]
            self.assertEqual(grid_layer(grid_rows(layer, width)), layer)
            turned_one, mirrored_one = turned(layer, width), mirrored(layer, width)
            for row in range(height):
                for column in range(width):
                    sign = layer[row * width + column]
                    self.assertEqual(grid_rows(layer, width)[row][column], sign)
                    self.assertEqual(turned_one[column * height + height - 1 - row], sign)
                    self.assertEqual(mirrored_one[row * width + width - 1 - column], sign)

    def test_four_turns(self):
        layer = "ab-c.d"
        self.assertEqual(turned(turned(turned(turned(layer, 3), 2), 3), 2), layer)
        self.assertEqual(turned(turned(layer, 3), 2), layer[::-1])
        self.assertEqual(mirrored(mirrored(layer, 2), 2), layer)
