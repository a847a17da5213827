"""Points 29 and 30: marks of claims."""

import unittest

from stampsheets.claims import Claim
from stampsheets.errors import UnknownName
from stampsheets.marks import first_mark, holds, mark_holds, next_mark
from stampsheets.stocks import Stock
from tests.claimcases import all_atoms, random_claim
from tests.plain import atom_true, random_pairs, rows_up_to, tree_true

PAIRS = (("x", "a-"), ("y", "bb"), ("z", "-c"))
STOCK = Stock(2, PAIRS)

# What is remembered of a row that is read backwards: y x x z y x, from left to right.
READ = ("y", "x", "x", "z", "y", "x")
NUMBERS = {
    ("used", "x", 1): (0, 1, 1, 1, 1, 1), ("used", "x", 2): (0, 1, 2, 2, 2, 2), ("used", "y", 3): (1, 1, 1, 1, 2, 2),
    ("rest", "x", 2, 0): (0, 1, 0, 0, 0, 1), ("rest", "x", 4, 3): (0, 1, 2, 2, 2, 3),
    ("over", "x", "z"): (0, 1, 1, 1, 1, 1), ("over", "x", "y"): (2, 2, 2, 2, 2, 2), ("over", "z", "x"): (0, 2, 2, 2, 2, 2),
    ("ahead", "x", "y"): (2, 1, 1, 1, 2, 1), ("ahead", "z", "x"): (0, 2, 2, 1, 1, 2),
    ("next", "x", "y"): (1, 2, 2, 2, 2, 2), ("next", "y", "z"): (0, 0, 0, 1, 2, 2), ("next", "x", "x"): (0, 1, 2, 2, 2, 2),
    ("next", "y", "y"): (1, 0, 0, 0, 1, 0), ("next", "z", "y"): (1, 0, 0, 0, 1, 0),
    ("ends", "y"): (1, 1, 1, 1, 1, 1), ("ends", "x"): (2, 2, 2, 2, 2, 2),
    ("begins", "x"): (0, 1, 1, 0, 0, 1), ("begins", "y"): (1, 0, 0, 0, 1, 0),
    ("top", 0, "y"): (1, 1, 1, 1, 1, 1), ("top", 0, "x"): (2, 2, 2, 2, 2, 2), ("top", 0, None): (2, 2, 2, 2, 2, 2),
    ("top", 0, "z"): (2, 2, 2, 2, 2, 2),
}


class MarksTest(unittest.TestCase):
    def test_numbers(self):
        for atom, numbers in NUMBERS.items():
            claim = Claim.of(STOCK, atom)
            mark = first_mark(claim)
            self.assertEqual(mark, (0,))
            for name, number in zip(READ, numbers):
                mark = next_mark(claim, mark, name)
                self.assertEqual(mark, (number,), (atom, name))

    def test_top_waits_for_a_press_that_covers(self):
        claim = Claim.of(STOCK, ("top", 1, "y"))
        self.assertEqual(next_mark(claim, (0,), "x"), (0,))
        self.assertEqual(next_mark(claim, (0,), "y"), (1,))
        self.assertEqual(next_mark(claim, (0,), "z"), (2,))
        claim = Claim.of(STOCK, ("top", 1, None))
        self.assertEqual(next_mark(claim, (0,), "x"), (0,))
        self.assertEqual(next_mark(claim, (0,), "y"), (2,))

    def test_marks_that_hold(self):
        for atom, number in [
            (("used", "x", 2), 2), (("rest", "x", 3, 2), 2), (("rest", "x", 3, 0), 0), (("over", "x", "y"), 1),
            (("ahead", "x", "y"), 1), (("next", "x", "y"), 2), (("ends", "x"), 1), (("begins", "x"), 1),
            (("top", 0, "x"), 1), (("top", 0, None), 0),
        ]:
            claim = Claim.of(STOCK, atom)
            for mark in (0, 1, 2):
                self.assertIs(mark_holds(claim, (mark,)), mark == number)
                self.assertIs(mark_holds(~claim, [mark]), mark != number)

    def test_several_atoms(self):
        x, y, z = [Claim.of(STOCK, ("ends", name)) for name in "xyz"]
        claim = (x | y) & ~z
        self.assertEqual(first_mark(claim=claim), (0, 0, 0))
        self.assertEqual(next_mark(name="y", mark=[0, 0, 0], claim=claim), (2, 1, 2))
        self.assertIsInstance(next_mark(claim, [0, 0, 0], "y"), tuple)
        self.assertIs(mark_holds(mark=(2, 1, 2), claim=claim), True)
        self.assertIs(mark_holds(claim, (0, 0, 0)), False)
        self.assertIs(mark_holds(claim, (1, 2, 1)), False)

    def test_holds(self):
        claim = Claim.of(STOCK, ("used", "x", 2))
        self.assertIs(holds(claim, ["x", "y", "x"]), True)
        self.assertIs(holds(claim, ("x",)), False)
        self.assertIs(holds(claim, ()), False)
        self.assertIs(holds(row=["x"] * 60, claim=claim), True)
        with self.assertRaises(UnknownName) as caught:
            holds(claim, ["x", "no name", "q"])
        self.assertEqual(caught.exception.name, "no name")

    def test_all_atoms_on_all_rows(self):
        for seed in range(3):
            pairs = random_pairs(seed, 2, 3)
            stock = Stock(2, pairs)
            for atom in all_atoms(stock):
                claim = Claim.of(stock, atom)
                for row in rows_up_to("xyz", 4):
                    self.assertIs(holds(claim, row), atom_true(pairs, atom, row), (atom, row))

    def test_claims_on_all_rows(self):
        for seed in range(60):
            claim = random_claim(seed, STOCK, seed % 8 + 1)
            for row in rows_up_to("xyz", 3):
                self.assertIs(holds(claim, row), tree_true(PAIRS, claim.tree, row))

    def test_deep_claims(self):
        claim = Claim.of(STOCK, ("ends", "x"))
        for _ in range(7):
            claim = ~claim
        self.assertIs(holds(claim, ("x",)), False)
        self.assertIs(holds(claim, ("y",)), True)
        self.assertIs(holds(claim, ()), True)
