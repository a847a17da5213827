"""Points 20 and 21: trails, and histories that keep them."""

import unittest

from stampsheets.errors import BadStep, StocksDiffer, UnknownName
from stampsheets.stocks import Stock
from stampsheets.trails import Trail, keeps
from tests.plain import divides, layers_of, random_pairs, rows_up_to

STOCK = Stock(2, [("x", "a-"), ("y", "-b"), ("z", "a-")])
LOOK = ("look", "a-")
ROWS = ("rows", ("x", "y"))
PRESS = ("press", ("y",))


class TrailTest(unittest.TestCase):
    def test_fields(self):
        trail = Trail(STOCK, [["look", "a-"], ["rows", ["y", "x", "y"]], ("press", ("z", "x"))])
        self.assertEqual(trail.stock, STOCK)
        self.assertEqual(trail.steps, (LOOK, ROWS, ("press", ("x", "z"))))
        self.assertEqual(Trail(steps=(), stock=STOCK).steps, ())
        self.assertEqual(Trail(STOCK, [("rows", []), ("press", ())]).steps, (("rows", ()), ("press", ())))
        self.assertEqual(len(Trail(STOCK, [PRESS] * 12)), 12)

    def test_later_changes(self):
        names = ["x"]
        steps = [["rows", names]]
        trail = Trail(STOCK, steps)
        names.append("y")
        steps.append(["press", ["x"]])
        self.assertEqual(trail.steps, (("rows", ("x",)),))

    def test_bad_steps(self):
        wrong = [
            (), ("look",), ("look", "a-", "a-"), ("rows",), ("press", ("x",), ()), ("pull", ("x",)), ("", "a-"),
            ("look", "a"), ("look", "a--"), ("look", ""), ("look", "A-"), ["looks", "a-"], ("Look", "a-"),
        ]
        for step in wrong:
            with self.assertRaises(BadStep) as caught:
                Trail(STOCK, [LOOK, step, ("rows", ("q",))])
            self.assertEqual(caught.exception.index, 1)

    def test_unknown_names(self):
        with self.assertRaises(UnknownName) as caught:
            Trail(STOCK, [LOOK, ("rows", ("x", "no name", "q")), ("look", "")])
        self.assertEqual(caught.exception.name, "no name")
        with self.assertRaises(BadStep) as caught:
            Trail(STOCK, [("look", ""), ("press", ("q",))])
        self.assertEqual(caught.exception.index, 0)

    def test_operators(self):
        trail = Trail(STOCK, [LOOK, ROWS])
        self.assertEqual(len(trail), 2)
        self.assertEqual(tuple(trail), (LOOK, ROWS))
        self.assertIs(trail == Trail(STOCK, [["look", "a-"], ["rows", ["y", "x"]]]), True)
        self.assertIs(trail == Trail(STOCK, [ROWS, LOOK]), False)
        self.assertIs(trail == Trail(STOCK.renamed("z", "w"), [LOOK, ROWS]), False)
        for other in [(LOOK, ROWS), None, STOCK]:
            self.assertIs(trail == other, False)

    def test_sum(self):
        trail = Trail(STOCK, [LOOK]) + Trail(Stock(2, list(STOCK)), [ROWS, PRESS])
        self.assertEqual(trail, Trail(STOCK, [LOOK, ROWS, PRESS]))
        with self.assertRaises(StocksDiffer):
            Trail(STOCK, [LOOK]) + Trail(STOCK.renamed("z", "w"), [ROWS])

    def test_with_look(self):
        trail = Trail(STOCK, [ROWS, PRESS])
        self.assertEqual(trail.with_look(0, "a-").steps, (LOOK, ROWS, PRESS))
        self.assertEqual(trail.with_look(1, "a-").steps, (ROWS, LOOK, PRESS))
        self.assertEqual(trail.with_look(layer="a-", index=2).steps, (ROWS, PRESS, LOOK))
        self.assertEqual(trail.steps, (ROWS, PRESS))
        self.assertEqual(Trail(STOCK, ()).with_look(0, "--").steps, (("look", "--"),))


class KeepsTest(unittest.TestCase):
    def test_ordinary(self):
        trail = Trail(STOCK, [("look", ".-"), ("rows", ("x", "y")), ("look", "a-"), ("press", ("y",)), ("look", "-b")])
        self.assertIs(keeps(trail, "..", ["x", "y"]), True)
        self.assertIs(keeps(trail, "..", ("y", "x", "y", "x", "y")), True)
        self.assertIs(keeps(trail, "..", ("x",)), False)
        self.assertIs(keeps(trail, "a.", ("x", "y")), False)
        self.assertIs(keeps(trail, "..", ("z", "y")), False)
        self.assertIs(keeps(trail, "..", ("y", "x")), False)
        self.assertIs(keeps(row=["x"] * 59 + ["y"], start="..", trail=trail), True)

    def test_edges(self):
        self.assertIs(keeps(Trail(STOCK, ()), "..", ()), True)
        self.assertIs(keeps(Trail(STOCK, ()), "..", ("x",)), False)
        self.assertIs(keeps(Trail(STOCK, [("rows", ())]), "..", ()), True)
        self.assertIs(keeps(Trail(STOCK, [("rows", ())]), "..", ("x",)), False)
        self.assertIs(keeps(Trail(STOCK, [("press", ())]), "..", ()), False)
        self.assertIs(keeps(Trail(STOCK, [PRESS] * 12), "..", ("y",) * 12), True)
        self.assertIs(keeps(Trail(STOCK, [PRESS] * 12), "..", ("y",) * 11), False)
        self.assertIs(keeps(Trail(STOCK, [("look", "ab")]), "ab", ()), True)
        self.assertIs(keeps(Trail(STOCK, [("look", "ab")]), "aa", ()), False)

    def test_unknown_name(self):
        with self.assertRaises(UnknownName) as caught:
            keeps(Trail(STOCK, [("press", ())]), "..", ["x", "no name", "q"])
        self.assertEqual(caught.exception.name, "no name")

    def test_names_are_not_parts_of_looks(self):
        stock = Stock(1, [("a", "a")])
        self.assertIs(keeps(Trail(stock, [("look", "a")]), "a", ("a",)), False)

    def test_all_divisions(self):
        for seed in range(20):
            pairs = random_pairs(seed, 2, 3)
            for steps in TRAILS:
                trail = Trail(Stock(2, pairs), steps)
                for start in layers_of(2, "ab."):
                    for row in rows_up_to("xyz", 3):
                        self.assertIs(keeps(trail, start, row), divides(pairs, trail.steps, start, row))


TRAILS = [
    [("rows", "x"), ("look", "a-"), ("rows", "xyz")],
    [("look", "a-"), ("rows", "xy"), ("look", "-b"), ("press", "yz"), ("look", "a-")],
    [("press", "xy"), ("rows", "z"), ("look", "-."), ("rows", "yz"), ("rows", "x"), ("look", "--")],
]
TRAILS = [[(word, told if word == "look" else tuple(told)) for word, told in steps] for steps in TRAILS]
