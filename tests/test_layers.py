"""Points 5 to 7: marks and layers."""

import unittest
from random import Random

from stampsheets.layers import (
    agree, cells_of, empty_layer, filled, freed, is_layer, is_sheet, joined, kept_at, layer_order, press, within,
)
from tests.plain import MARKS, fits, layers_of, sheets_fitting


class LayersTest(unittest.TestCase):
    def test_is_layer(self):
        for value in ["-", ".", "a", "z", "a" * 30, "-" * 30, "a-.z", MARKS + "---"]:
            self.assertIs(is_layer(value), True, value)
        wrong = ["", "a" * 31, "A", "a b", "1", "a\n", "_", "a,", None, 0, 1, True, ["a"], ("a",), b"a", {}, {"a"},
                 1.5, "\u00e9", object()]
        for value in wrong:
            self.assertIs(is_layer(value), False, value)

    def test_is_sheet(self):
        for value in [".", "abc", "z" * 30]:
            self.assertIs(is_sheet(value), True, value)
        for value in ["-", "a-", "", "a" * 31, "B", None, 3, ["."], ("a",), False]:
            self.assertIs(is_sheet(value), False, value)

    def test_cells_of(self):
        self.assertEqual(cells_of("-a.-z"), (1, 2, 4))
        self.assertEqual(cells_of("--"), ())
        self.assertEqual(cells_of("." * 30), tuple(range(30)))

    def test_agree_within_joined_on_all_small_layers(self):
        layers = layers_of(2, "-.ab")
        for one in layers:
            for two in layers:
                common = [s for s in layers_of(2, ".abz") if fits(s, one) and fits(s, two)]
                self.assertIs(agree(one, two), bool(common), (one, two))
                inside = all(fits(s, one) for s in sheets_fitting(two, ".abz"))
                self.assertIs(within(one, two), inside, (one, two))
                both = joined(one, two)
                if common:
                    self.assertEqual(sorted(sheets_fitting(both, ".abz")), sorted(common))
                else:
                    self.assertIsNone(both)

    def test_agree_within_joined(self):
        self.assertIs(agree("a-", "-b"), True)
        self.assertIs(agree("a-", "b-"), False)
        self.assertIs(agree("a.", "a-"), True)
        self.assertIs(within("--", "ab"), True)
        self.assertIs(within("a-", "-b"), False)
        self.assertIs(within("ab", "ab"), True)
        self.assertEqual(joined("a--", "-.-"), "a.-")
        self.assertIsNone(joined("a", "."))

    def test_freed_and_kept(self):
        self.assertEqual(freed("abc.", (1, 3)), "a-c-")
        self.assertEqual(freed("abc.", [3, 1, 1, 3]), "a-c-")
        self.assertEqual(freed("a-", ()), "a-")
        self.assertEqual(kept_at("abc.", (3, 1)), "-b-.")
        self.assertEqual(kept_at("abc.", [0, 0]), "a---")
        self.assertEqual(kept_at("abc.", []), "----")
        self.assertEqual(kept_at("a-", (1,)), "--")

    def test_empty_and_filled(self):
        self.assertEqual(empty_layer(1), "-")
        self.assertEqual(empty_layer(30), "-" * 30)
        self.assertEqual(filled("-a-."), ".a..")
        self.assertEqual(filled("--"), "..")

    def test_layer_order(self):
        order = "-" + MARKS
        layers = layers_of(2, order)
        mixed = Random(5).sample(layers, len(layers))
        wanted = sorted(layers, key=lambda layer: [order.index(sign) for sign in layer])
        self.assertEqual(sorted(mixed, key=layer_order), wanted)

    def test_press(self):
        self.assertEqual(press("abc", "-x."), "ax.")
        self.assertEqual(press("a-", "--"), "a-")
        self.assertEqual(press("--", "b-"), "b-")

    def test_by_name(self):
        self.assertIs(is_layer(value="a"), True)
        self.assertIs(is_sheet(value="-"), False)
        self.assertEqual(cells_of(one="-a"), (1,))
        self.assertIs(agree(two="a", one="a"), True)
        self.assertIs(within(two="a", one="-"), True)
        self.assertEqual(joined(two="a-", one="-b"), "ab")
        self.assertEqual(freed(chosen=[0], one="ab"), "-b")
        self.assertEqual(kept_at(chosen=[0], one="ab"), "a-")
        self.assertEqual(empty_layer(size=2), "--")
        self.assertEqual(filled(one="-"), ".")
        self.assertEqual(sorted(["a", "-"], key=lambda layer: layer_order(one=layer)), ["-", "a"])
        self.assertEqual(press(two="-b", one="aa"), "ab")
