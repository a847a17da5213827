"""Point 70: duels, answers, and the sheets of a duel."""

import unittest

from stampsheets.duels import Duel, answers_to, duel_sheets
from stampsheets.errors import BadWish, SizesDiffer
from stampsheets.stocks import Stock
from tests.duelcases import random_duel

MINE = Stock(3, [("x", "a--"), ("y", "-b-"), ("z", "ab-")])
FOES = Stock(3, [("x", "c--"), ("p", "--c")])
EMPTY = Stock(3, ())


class DuelTest(unittest.TestCase):
    def test_fields(self):
        duel = Duel(MINE, FOES, ["ab-", "-.-"], 2)
        self.assertEqual((duel.mine, duel.foes, duel.wishes, duel.most), (MINE, FOES, ("ab-", "-.-"), 2))
        duel = Duel(most=None, wishes=("---",) * 4, foes=EMPTY, mine=EMPTY)
        self.assertEqual((duel.wishes, duel.most), (("---",) * 4, None))

    def test_later_changes(self):
        wishes = ["ab-"]
        duel = Duel(MINE, FOES, wishes, 0)
        wishes.append("---")
        wishes[0] = "c--"
        self.assertEqual(duel.wishes, ("ab-",))

    def test_sizes_come_first(self):
        for wishes in [("ab-",), ("nothing",)]:
            with self.assertRaises(SizesDiffer) as caught:
                Duel(MINE, Stock(2, ()), wishes, 1)
            self.assertEqual((caught.exception.one, caught.exception.two), (3, 2))

    def test_bad_wishes(self):
        for wishes, index in [
            (("ab-", "ab"), 1), (("ab--",), 0), (("",), 0), (("aB-",), 0), (("a b",), 0),
            (("---", "---", "a\nb", "q"), 2), (("---", "---", "---", "any string"), 3),
        ]:
            with self.assertRaises(BadWish) as caught:
                Duel(MINE, FOES, wishes, None)
            self.assertEqual(caught.exception.index, index)

    def test_equal(self):
        duel = Duel(MINE, FOES, ("ab-", "---"), 2)
        self.assertIs(duel == Duel(Stock(3, list(MINE)), FOES, ["ab-", "---"], 2), True)
        for other in [
            Duel(FOES, FOES, ("ab-", "---"), 2), Duel(MINE, MINE, ("ab-", "---"), 2),
            Duel(MINE, FOES, ("---", "ab-"), 2),
            Duel(MINE, FOES, ("ab-",), 2), Duel(MINE, FOES, ("ab-", "---"), 1), Duel(MINE, FOES, ("ab-", "---"), None),
        ]:
            self.assertIs(duel == other, False)
            self.assertIs(duel != other, True)
        for other in [MINE, None, ("ab-", "---"), 2]:
            self.assertIs(duel == other, False)
        self.assertIs(Duel(MINE, FOES, ("---",), 0) == Duel(MINE, FOES, ("---",), None), False)


class AnswersTest(unittest.TestCase):
    def test_ordinary(self):
        one = Duel(MINE, FOES, ("---",), 1)
        self.assertEqual(answers_to(one, "..."), (((), "..."), (("x",), "a.."), (("y",), ".b."), (("z",), "ab.")))
        self.assertEqual(answers_to(duel=one, sheet="ab."), (((), "ab."),))
        more = Duel(MINE.without(("z",)), FOES, ("---",), None)
        self.assertEqual(answers_to(more, "c.."), (((), "c.."), (("x",), "a.."), (("y",), "cb."), (("x", "y"), "ab.")))

    def test_no_presses_and_no_stamps(self):
        self.assertEqual(answers_to(Duel(MINE, FOES, ("---",), 0), "..."), (((), "..."),))
        for most in (0, 3, None):
            self.assertEqual(answers_to(Duel(EMPTY, FOES, ("---",), most), "..."), (((), "..."),))

    def test_the_bound_on_presses(self):
        stock = Stock(3, [("z", "--a"), ("y", "-a-"), ("x", "a--")])
        many = [len(answers_to(Duel(stock, EMPTY, ("---",), most), "...")) for most in (0, 1, 2, 3, None)]
        self.assertEqual(many, [1, 4, 7, 8, 8])
        # Rows of one length come in the order of the stock, not of the letters.
        rows = [row for row, after in answers_to(Duel(stock, EMPTY, ("---",), 2), "...")]
        self.assertEqual(rows, [(), ("z",), ("y",), ("x",), ("z", "y"), ("z", "x"), ("y", "x")])

    def test_against_all_rows(self):
        for seed in range(300):
            plain, start = random_duel(seed)
            for sheet in plain.sheets(start):
                self.assertEqual(answers_to(plain.duel(), sheet), plain.answers(sheet))


class DuelSheetsTest(unittest.TestCase):
    def test_ordinary(self):
        duel = Duel(MINE, FOES, ("---",), 0)
        self.assertEqual(duel_sheets(duel, "..."), tuple(sorted(
            a + b + c for a in ".ac" for b in ".b" for c in ".c")))
        self.assertEqual(duel_sheets(start="q..", duel=Duel(EMPTY, EMPTY, ("---",), None)), ("q..",))
        # The same name in both stocks may have two stamps.
        both = Duel(Stock(1, [("x", "a")]), Stock(1, [("x", "b")]), ("-",), 1)
        self.assertEqual(duel_sheets(both, "."), (".", "a", "b"))

    def test_all_six_stamps_and_many_sheets(self):
        mine = Stock(5, [(name, "-" * k + "a" + "-" * (4 - k)) for k, name in enumerate("stuvw")])
        foes = Stock(5, [(name, "-" * k + "b" + "-" * (4 - k)) for k, name in enumerate("stuvw")])
        self.assertEqual(len(duel_sheets(Duel(mine, foes, ("-----",), None), "ababa")), 32)
        self.assertEqual(len(duel_sheets(Duel(mine, foes, ("-----",), 0), ".....")), 243)

    def test_against_all_rows(self):
        for seed in range(300):
            plain, start = random_duel(seed, 3)
            self.assertEqual(duel_sheets(plain.duel(), start), plain.sheets(start))
