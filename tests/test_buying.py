"""Point 47: the fewest stamps to buy."""

import unittest
from random import Random

from stampsheets.buying import additions
from stampsheets.errors import NameTaken, SizesDiffer
from stampsheets.stocks import Stock
from tests.plain import all_subsets, in_order, plain_nets, random_pairs, random_stamp

STOCK = Stock(3, [("x", "a--")])
OFFERS = Stock(3, [("w", "-bb"), ("v", "--c"), ("u", "-b-"), ("t", "--b")])


class BuyingTest(unittest.TestCase):
    def test_ordinary(self):
        self.assertEqual(additions(STOCK, OFFERS, ("abb",)), ("w",))
        self.assertEqual(additions(STOCK, OFFERS, ("abc",)), ("w", "v"))
        self.assertEqual(additions(STOCK, OFFERS, ["ab-", "a-c"]), ("v", "u"))
        self.assertEqual(additions(STOCK, OFFERS, ("ab-", "abb")), ("w", "u"))
        self.assertEqual(additions(STOCK, OFFERS, ("a--", "--b", "--c", "-b-")), ("v", "u", "t"))
        self.assertIsNone(additions(STOCK, OFFERS, ("b--",)))
        self.assertIsNone(additions(STOCK, OFFERS, ("abb", "b--")))

    def test_nothing_to_buy(self):
        self.assertEqual(additions(STOCK, OFFERS, ()), ())
        self.assertEqual(additions(STOCK, OFFERS, ["a--"]), ())
        empty = Stock(3, ())
        self.assertEqual(additions(STOCK, empty, ["a--"]), ())
        self.assertIsNone(additions(STOCK, empty, ["b--"]))
        self.assertEqual(additions(wishes=["--c"], offers=OFFERS, stock=empty), ("v",))

    def test_errors_in_order(self):
        with self.assertRaises(SizesDiffer) as caught:
            additions(STOCK, Stock(2, [("x", "a-")]), ("a--",))
        self.assertEqual((caught.exception.one, caught.exception.two), (3, 2))
        # The name is taken even if its stamp is the same, and even if nothing is wished.
        stock = Stock(3, [("x", "a--"), ("y", "-b-")])
        for stamp in ["-b-", "-q-"]:
            offers = Stock(3, [("q", "q--"), ("y", stamp), ("x", "a--")])
            for wishes in [(), ("a--",), ("z--",)]:
                with self.assertRaises(NameTaken) as caught:
                    additions(stock, offers, wishes)
                self.assertEqual(caught.exception.name, "y")

    def test_twelve_stamps_and_six_offers(self):
        stock = Stock(12, [(f"n{k}", "-" * k + "a" + "-" * (11 - k)) for k in range(12)])
        offers = Stock(12, [(f"m{k}", "-" * k + "b" + "-" * (11 - k)) for k in range(6)])
        self.assertEqual(additions(stock, offers, ["ab" * 3 + "a" * 6, "b" + "a" * 11]), ("m0", "m1", "m3", "m5"))

    def test_against_all_sets(self):
        sizes = set()
        for seed in range(120):
            pairs = random_pairs(seed, 3, 2, "--ab")
            offers = tuple((name + "9", stamp) for name, stamp in random_pairs(seed + 300, 3, 4, "--ab"))
            random = Random(seed)
            wishes = [random_stamp(random, 3, "-ab") for _ in range(1 + seed % 3)]
            names = [name for name, stamp in offers]
            enough = [one for one in all_subsets(names)
                      if set(wishes) <= plain_nets(pairs + tuple(p for p in offers if p[0] in one), 3)]
            wanted = in_order(names, enough)[0] if enough else None
            self.assertEqual(additions(Stock(3, pairs), Stock(3, offers), wishes), wanted)
            sizes.add(None if wanted is None else len(wanted))
        self.assertLessEqual({None, 0, 1, 2}, sizes)
