"""Points 73 and 74: what can always be restored, and how many presses it takes."""

import unittest
from random import Random

from stampsheets.duels import Duel
from stampsheets.errors import BadWish, SizesDiffer
from stampsheets.havens import safe_sheets
from stampsheets.restoring import least_most, weak_point
from stampsheets.stocks import Stock
from tests.duelcases import random_duel
from tests.plain import fits, layers_of, over, random_layer, random_pairs, reachable

MINE = Stock(3, [("x", "aa-"), ("y", "-b-")])
FOES = Stock(3, [("p", "c--"), ("q", "-cc"), ("r", "--d")])


class WeakPointTest(unittest.TestCase):
    def test_ordinary(self):
        self.assertIsNone(weak_point(MINE, FOES, "ab-"))
        self.assertEqual(weak_point(MINE, FOES, "abc"), ("r", 2))
        self.assertEqual(weak_point(foes=FOES, mine=MINE, wish="abe"), ("q", 2))
        # The peeling ends at the wish itself: each of its cells counts.
        self.assertEqual(weak_point(MINE, FOES, "cc-"), None)
        self.assertEqual(weak_point(MINE, FOES, "ca-"), ("q", 1))
        self.assertEqual(weak_point(MINE, FOES, "fff"), ("p", 0))

    def test_edges(self):
        empty = Stock(3, ())
        self.assertIsNone(weak_point(MINE, empty, "fff"))
        self.assertEqual(weak_point(empty, FOES, "--."), ("q", 2))
        self.assertIsNone(weak_point(empty, FOES, "---"))
        self.assertIsNone(weak_point(empty, empty, "abc"))

    def test_more_than_six_stamps(self):
        many = Stock(3, [(f"n{k}", "-" * (k % 3) + "abcdefghi"[k] + "-" * (2 - k % 3)) for k in range(9)])
        self.assertEqual(weak_point(MINE, many, "ab."), ("n2", 2))
        self.assertEqual(weak_point(many, many, "abb"), ("n2", 2))
        self.assertIsNone(weak_point(many, many, "ghi"))
        self.assertIsNone(weak_point(many, FOES, "ab-"))

    def test_sizes(self):
        with self.assertRaises(SizesDiffer) as caught:
            weak_point(MINE, Stock(2, [("p", "c-")]), "ab-")
        self.assertEqual((caught.exception.one, caught.exception.two), (3, 2))

    def test_against_all_sheets(self):
        weak = 0
        for seed in range(120):
            random = Random(seed)
            mine, foes = random_pairs(seed, 2, random.randrange(0, 4)), random_pairs(seed + 999, 2, 2, "--abz")
            wish = random_layer(random, 2, "-ab")
            found = weak_point(Stock(2, mine), Stock(2, foes), wish)
            weak += found is not None
            self.check(mine, foes, wish, found)
        self.assertGreater(weak, 20)

    def check(self, mine, foes, wish, found):
        makes = {sheet: any(fits(made, wish) for made in reachable(mine, [sheet])) for sheet in layers_of(2, "ab.z")}
        spoils = [name for name, stamp in foes if any(
            makes[sheet] and not makes[over(sheet, stamp)] for sheet in makes)]
        self.assertEqual(None if found is None else found[0], spoils[0] if spoils else None)
        if found is not None:
            name, cell = found
            stamp = dict(foes)[name]
            for sheet in makes:
                if fits(sheet, wish):
                    self.assertFalse(makes[over(sheet, stamp)])
            self.assertNotIn(stamp[cell], ("-", wish[cell]))


class LeastMostTest(unittest.TestCase):
    def test_ordinary(self):
        mine = Stock(3, [("x", "a--"), ("y", "-a-"), ("z", "--a")])
        for many in range(4):
            foes = Stock(3, [("p", "c" * many + "-" * (3 - many))] if many else ())
            self.assertEqual(least_most(mine, foes, ("aaa",), "aaa"), many)

    def test_any_and_none(self):
        mine = Stock(4, [(name, "-" * k + "a" + "-" * (3 - k)) for k, name in enumerate("wxyz")])
        foes = Stock(4, [("p", "cccc")])
        self.assertEqual(least_most(mine, foes, ["aaaa"], "aaaa"), "any")
        self.assertIsNone(least_most(mine.without(("z",)), foes, ["aaaa"], "aaaa"))
        self.assertIsNone(least_most(start="caaa", wishes=["aaaa"], foes=foes, mine=mine))
        self.assertEqual(least_most(mine, foes, ["aaa-", "b---"], "aaab"), 3)
        self.assertEqual(least_most(mine, foes, ["----"], "cccc"), 0)
        self.assertEqual(least_most(Stock(4, ()), Stock(4, ()), ["a---"], "aaab"), 0)

    def test_errors(self):
        with self.assertRaises(SizesDiffer) as caught:
            least_most(MINE, Stock(1, ()), ("nothing",), "...")
        self.assertEqual((caught.exception.one, caught.exception.two), (3, 1))
        with self.assertRaises(BadWish) as caught:
            least_most(MINE, FOES, ("---", "ab", ""), "...")
        self.assertEqual(caught.exception.index, 1)

    def test_against_safe_sheets(self):
        for seed in range(200):
            plain, start = random_duel(seed)
            mine, foes = Stock(2, plain.mine), Stock(2, plain.foes)
            safe = [most for most in (0, 1, 2, 3, None)
                    if start in safe_sheets(Duel(mine, foes, plain.wishes, most), start)]
            wanted = safe[0] if safe else None
            if safe == [None]:
                wanted = "any"
            self.assertEqual(least_most(mine, foes, plain.wishes, start), wanted)
