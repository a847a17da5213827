"""Points 49 and 50: boxes, and what explains them."""

import unittest

from stampsheets.boxes import Box, explains, refusal_of
from stampsheets.errors import UnknownName
from stampsheets.makings import making
from stampsheets.stocks import Stock
from tests.boxcases import box_of, random_box
from tests.plain import all_subsets, explaining

STOCK = Stock(2, [("x", "a-"), ("y", "-b"), ("z", "cb"), ("w", "a-")])
BOX = Box(STOCK, [("..", "ab"), (".-", "-b"), ("..", "a.")])


class BoxTest(unittest.TestCase):
    def test_fields(self):
        self.assertEqual(BOX.stock, STOCK)
        self.assertEqual(BOX.pairs, (("..", "ab"), (".-", "-b"), ("..", "a.")))
        self.assertEqual(Box(pairs=(), stock=STOCK).pairs, ())
        self.assertEqual(len(BOX), 3)
        self.assertEqual(len(Box(STOCK, [])), 0)
        self.assertEqual(list(BOX), list(BOX.pairs))

    def test_lists_and_later_changes(self):
        pairs = [["..", "ab"], ["..", "--"]]
        box = Box(STOCK, pairs)
        pairs[0][1] = "qq"
        pairs.append(["..", "cc"])
        self.assertEqual(box.pairs, (("..", "ab"), ("..", "--")))
        self.assertIsInstance(box.pairs, tuple)
        self.assertIsInstance(box.pairs[0], tuple)

    def test_equal(self):
        self.assertIs(BOX == Box(Stock(2, list(STOCK)), list(BOX.pairs)), True)
        self.assertIs(BOX == Box(STOCK, BOX.pairs[::-1]), False)
        self.assertIs(BOX == Box(STOCK, BOX.pairs[:2]), False)
        self.assertIs(BOX == Box(STOCK.only(("x", "y", "z")), BOX.pairs), False)
        for other in [BOX.pairs, STOCK, None, 3]:
            self.assertIs(BOX == other, False)
            self.assertIs(BOX != other, True)

    def test_with_pair(self):
        longer = BOX.with_pair(seen="cb", start="..")
        self.assertEqual(longer, Box(STOCK, BOX.pairs + (("..", "cb"),)))
        self.assertEqual(BOX.with_pair("..", "cb").pairs[3], ("..", "cb"))
        self.assertEqual(len(BOX), 3)


class ExplainsTest(unittest.TestCase):
    def test_ordinary(self):
        self.assertIs(explains(BOX, ("x", "y")), True)
        self.assertIs(explains(BOX, ["w", "z", "y", "w"]), True)
        self.assertIs(explains(BOX, ("w", "z")), True)
        self.assertIs(explains(names=("y", "z"), box=BOX), False)
        self.assertEqual(refusal_of(BOX, ("x",)), (0, (1,), 1))
        self.assertEqual(refusal_of(BOX, ("y",)), (0, (0,), 0))
        self.assertEqual(refusal_of(BOX, ["z", "z"]), (0, (0, 1), 0))
        self.assertIsNone(refusal_of(names=["y", "x"], box=BOX))
        self.assertEqual(refusal_of(BOX.with_pair("p.", "c."), ("y", "x")), (3, (0, 1), 0))
        self.assertEqual(refusal_of(Box(STOCK, [(".a", "cb"), ("-.", "cq")]), ("z",)), (1, (0, 1), 1))

    def test_empty_set_and_no_pairs(self):
        self.assertIs(explains(Box(STOCK, ()), ()), True)
        self.assertIsNone(refusal_of(Box(STOCK, ()), ()))
        self.assertEqual(refusal_of(BOX, ()), (0, (0, 1), 0))
        self.assertIs(explains(Box(STOCK, [("q-", "q."), ("--", "ab")]), []), True)
        self.assertIs(explains(Box(Stock(1, ()), [("a", "a")]), ()), True)
        self.assertEqual(refusal_of(Box(Stock(1, ()), [("a", "a"), ("b", "a")]), ()), (1, (0,), 0))

    def test_cells_that_no_stamp_covers(self):
        box = Box(Stock(2, [("x", "a-")]), [("..", "ab")])
        self.assertEqual(refusal_of(box, ("x",)), (0, (1,), 1))
        self.assertIs(explains(box, ("x",)), False)

    def test_unknown_names(self):
        for call in (explains, refusal_of):
            for box in (BOX, Box(STOCK, ()), Box(STOCK, [("..", "qq")])):
                for names, name in [(("x", "q", "p"), "q"), (["no name"], "no name"), (("", "x"), "")]:
                    with self.assertRaises(UnknownName) as caught:
                        call(box, names)
                    self.assertEqual(caught.exception.name, name)

    def test_against_all_sets(self):
        for seed in range(80):
            pairs, couples = random_box(seed)
            box = box_of(pairs, couples)
            sets = explaining(pairs, couples)
            for names in all_subsets(box.stock.names):
                self.assertIs(explains(box, names[::-1] + names[:1]), names in sets)
                self.check(box, names, names in sets)

    def check(self, box, names, explained):
        found = refusal_of(box, names[::-1])
        self.assertIs(found is None, explained)
        if found is not None:
            index, cells, cell = found
            chosen = box.stock.only(names)
            makings = [making(chosen, start, seen) for start, seen in box.pairs]
            self.assertEqual([one.made for one in makings[:index + 1]], [True] * index + [False])
            self.assertEqual((cells, cell), (makings[index].cells, makings[index].cell))
