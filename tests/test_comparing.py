"""Point 44: comparing two stocks."""

import unittest

from stampsheets.comparing import compare_stocks, strange_sheet
from stampsheets.errors import SizesDiffer
from stampsheets.rows import net_stamp
from stampsheets.stocks import Stock
from tests.plain import over, plain_nets, random_pairs, reachable

ONE = Stock(2, [("x", "ab"), ("w", "-b"), ("q", "c-")])
TWO = Stock(2, [("y", "a-"), ("w", "-b")])


class CompareTest(unittest.TestCase):
    def told(self, one, two):
        found = compare_stocks(one, two)
        return (found.word, found.rows, found.other_rows, found.missing, found.other_missing, found.sheet)

    def test_apart(self):
        self.assertEqual(self.told(ONE, TWO), (
            "apart", (("w", "y"), ("w",), None), (None, ("w",)), "q", "y", "zz"))

    def test_inside_and_around(self):
        one = ONE.without("q")
        self.assertEqual(self.told(one, TWO), (
            "inside", (("w", "y"), ("w",)), (None, ("w",)), None, "y", "zz"))
        self.assertEqual(self.told(TWO, one), (
            "around", (None, ("w",)), (("w", "y"), ("w",)), "y", None, "zz"))

    def test_alike(self):
        one = Stock(2, [("x", "ab"), ("v", "a-"), ("w", "-b")])
        self.assertEqual(self.told(one, TWO), (
            "alike", (("w", "y"), ("y",), ("w",)), (("v",), ("w",)), None, None, None))
        self.assertEqual(self.told(TWO, TWO), ("alike", (("y",), ("w",)), (("y",), ("w",)), None, None, None))

    def test_missing_is_the_first_name(self):
        three = Stock(2, [("c", "-b"), ("b", "q-"), ("a", "p-")])
        self.assertEqual(compare_stocks(three, TWO).missing, "b")
        self.assertEqual(compare_stocks(TWO, three).other_missing, "b")

    def test_empty_stocks(self):
        empty = Stock(2, ())
        self.assertEqual(self.told(empty, empty), ("alike", (), (), None, None, None))
        self.assertEqual(self.told(empty, TWO), ("inside", (), (None, None), None, "y", "zz"))
        self.assertEqual(self.told(TWO, empty), ("around", (None, None), (), "y", None, "zz"))

    def test_strange_sheet(self):
        self.assertEqual(strange_sheet(ONE, TWO), "zz")
        one = Stock(3, [("a", "z-y"), ("b", "-.z")])
        two = Stock(3, [("a", "yz-"), ("b", "xw.")])
        self.assertEqual(strange_sheet(one, two), "wyx")
        self.assertEqual(strange_sheet(two=Stock(1, ()), one=Stock(1, ())), "z")
        letters = "zyxwvutsrqponmlkjihgfedcba"
        many = [Stock(1, [(f"n{k}", letter) for k, letter in enumerate(part)]) for part in (letters[:12], letters[12:])]
        self.assertEqual(strange_sheet(*many), ".")
        most = [Stock(1, [(f"n{k}", c) for k, c in enumerate(part)]) for part in (letters[:12], "." + letters[12:23])]
        self.assertEqual(strange_sheet(*most), "c")

    def test_sizes_differ(self):
        for call in (strange_sheet, compare_stocks):
            with self.assertRaises(SizesDiffer) as caught:
                call(two=Stock(3, ()), one=TWO)
            self.assertEqual((caught.exception.one, caught.exception.two), (2, 3))

    def test_twelve_stamps(self):
        one = Stock(12, [(f"n{k}", "-" * k + "ab" + "-" * (10 - k)) for k in range(11)] + [("last", "a" * 12)])
        two = Stock(12, one.stamps[::-1])
        self.assertEqual(compare_stocks(one, two).word, "alike")
        self.assertEqual(compare_stocks(one.without(("n4",)), two).word, "inside")
        self.assertEqual(compare_stocks(one, two).rows[11], ("last",))

    def test_against_all_rows(self):
        words = set()
        for seed in range(400):
            signs = ["--a", "-ab"][seed % 2]
            first, second = random_pairs(seed, 2, 2, signs), random_pairs(seed + 1000, 2, 3, signs)
            one, two = Stock(2, first), Stock(2, second)
            found = compare_stocks(one, two)
            words.add(found.word)
            self.check(first, second, one, two, found)
        self.assertEqual(words, {"alike", "inside", "around", "apart"})

    def check(self, first, second, one, two, found):
        lacks = [name for name, stamp in first if stamp not in plain_nets(second, 2)]
        other_lacks = [name for name, stamp in second if stamp not in plain_nets(first, 2)]
        word = [["alike", "inside"], ["around", "apart"]][bool(lacks)][bool(other_lacks)]
        self.assertEqual(found.word, word)
        self.assertEqual(found.missing, lacks[0] if lacks else None)
        self.assertEqual(found.other_missing, other_lacks[0] if other_lacks else None)
        for pairs, maker, rows, missing in [
            (first, two, found.rows, lacks), (second, one, found.other_rows, other_lacks),
        ]:
            self.assertEqual(len(rows), len(pairs))
            for (name, stamp), row in zip(pairs, rows):
                self.assertIs(row is None, name in missing)
                if row is not None:
                    self.assertEqual(net_stamp(maker, row), stamp)
        self.assertEqual(found.sheet, None if word == "alike" else strange_sheet(one, two))
        if lacks:
            self.assertNotIn(over(found.sheet, dict(first)[lacks[0]]), reachable(second, [found.sheet]))
        if other_lacks:
            self.assertNotIn(over(found.sheet, dict(second)[other_lacks[0]]), reachable(first, [found.sheet]))
