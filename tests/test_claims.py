"""Points 28 and 29: atoms and claims."""

import unittest

from stampsheets.claims import Claim
from stampsheets.errors import BadAtom, StocksDiffer, UnknownName
from stampsheets.stocks import Stock

STOCK = Stock(3, [("x", "a--"), ("y", "-b-"), ("z", "--c")])

GOOD = [
    ("used", "x", 1), ("used", "x", 3), ("rest", "y", 2, 0), ("rest", "y", 2, 1), ("rest", "y", 4, 3),
    ("over", "x", "y"), ("ahead", "y", "x"), ("next", "x", "y"), ("next", "x", "x"), ("ends", "z"), ("begins", "x"),
    ("top", 0, "x"), ("top", 2, "y"), ("top", 2, None),
]

BAD = [
    (), ("user", "x", 1), ("",), ("used",), ("used", "x"), ("used", "x", 0), ("used", "x", 4), ("used", "x", True),
    ("used", "x", "1"), ("used", None, 1), ("used", "x", 1, 1), ("used", "x", None), ("used", "x", 1.0),
    ("used", "x", -1), ("rest", "x", 1, 0), ("rest", "x", 5, 0), ("rest", "x", 2, 2), ("rest", "x", 2, -1),
    ("rest", "x", 2), ("rest", None, 2, 0), ("rest", "x", 2, False), ("rest", "x", True, 0), ("rest", "x", None, 0),
    ("rest", "x", "2", 0), ("rest", "x", 2, 0, 0), ("over", "x", "x"), ("over", "x"), ("over", "x", None),
    ("over", None, "x"), ("over", "x", "y", "z"), ("ahead", "y", "y"), ("ahead", "x", None), ("ahead",),
    ("next", "x"), ("next", None, "x"), ("next", "x", None), ("next", "x", "x", "x"), ("ends",), ("ends", None),
    ("ends", "x", "x"), ("begins", None), ("begins",), ("top", 3, "x"), ("top", -1, "x"), ("top", True, "x"),
    ("top", None, "x"), ("top", "0", "x"), ("top", 0), ("top", 0, "x", "x"), ("top", [], None), ("top",),
    ("tap", 0, "x"), ("tops", 0, None), ("bottom", "x"), ("under", "x", "y"), ("over", "q", "q"), ("rest", "x", 2.0, 0), ("rest", "x", 10 ** 30, 0),
]


class ClaimTest(unittest.TestCase):
    def test_good_atoms(self):
        for atom in GOOD:
            claim = Claim.of(STOCK, atom)
            self.assertEqual(claim.tree, ("atom", atom))
            self.assertEqual(claim.atoms, (atom,))
            self.assertEqual(claim.stock, STOCK)
            self.assertEqual(Claim.of(STOCK, list(atom)).tree, ("atom", atom))
        self.assertEqual(Claim.of(atom=["ends", "x"], stock=STOCK).atoms, (("ends", "x"),))

    def test_bad_atoms(self):
        for atom in BAD:
            for value in (atom, list(atom)):
                with self.assertRaises(BadAtom) as caught:
                    Claim.of(STOCK, value)
                kept = caught.exception.atom
                self.assertIsInstance(kept, tuple)
                if not any(isinstance(item, list) for item in atom):
                    self.assertEqual(kept, atom)

    def test_bad_atoms_keep_tuples(self):
        with self.assertRaises(BadAtom) as caught:
            Claim.of(STOCK, ["used", "x", [1, [2]]])
        self.assertEqual(caught.exception.atom, ("used", "x", (1, (2,))))

    def test_unknown_names(self):
        for atom, name in [
            (("used", "no name", 1), "no name"), (("rest", "", 2, 0), ""), (("over", "x", "q"), "q"),
            (("over", "q", "r"), "q"), (("ahead", "r", "q"), "r"), (("next", "q", "q"), "q"), (("ends", "q"), "q"),
            (("begins", "q"), "q"), (("top", 0, "q"), "q"),
        ]:
            with self.assertRaises(UnknownName) as caught:
                Claim.of(STOCK, atom)
            self.assertEqual(caught.exception.name, name)
        with self.assertRaises(BadAtom):
            Claim.of(STOCK, ("used", "q", 9))

    def test_later_changes(self):
        atom = ["ends", "x"]
        claim = Claim.of(STOCK, atom)
        atom[1] = "y"
        self.assertEqual(claim.tree, ("atom", ("ends", "x")))

    def test_operators(self):
        one, two = Claim.of(STOCK, ("ends", "x")), Claim.of(STOCK, ("top", 0, None))
        self.assertEqual((one & two).tree, ("and", one.tree, two.tree))
        self.assertEqual((one | two).tree, ("or", one.tree, two.tree))
        self.assertEqual((~one).tree, ("not", one.tree))
        mixed = ~(one & (two | one)) & two
        self.assertEqual(mixed.tree, ("and", ("not", ("and", one.tree, ("or", two.tree, one.tree))), two.tree))
        self.assertEqual(mixed.atoms, (("ends", "x"), ("top", 0, None), ("ends", "x"), ("top", 0, None)))
        self.assertEqual(mixed.stock, STOCK)
        self.assertEqual(one.tree, ("atom", ("ends", "x")))

    def test_stocks_differ(self):
        one = Claim.of(STOCK, ("ends", "x"))
        two = Claim.of(STOCK.renamed("z", "w"), ("ends", "x"))
        with self.assertRaises(StocksDiffer):
            one & two
        with self.assertRaises(StocksDiffer):
            one | two

    def test_equal(self):
        one, two = Claim.of(STOCK, ("ends", "x")), Claim.of(STOCK, ("ends", "y"))
        self.assertIs(one == Claim.of(Stock(3, list(STOCK)), ["ends", "x"]), True)
        self.assertIs(one == two, False)
        self.assertIs(one & two == one & two, True)
        self.assertIs(one & two == two & one, False)
        self.assertIs(one == Claim.of(STOCK.renamed("z", "w"), ("ends", "x")), False)
        for other in [one.tree, None, STOCK]:
            self.assertIs(one == other, False)
