"""Point 75: how to come to a good sheet, and traps."""

import unittest
from random import Random

from stampsheets.duels import Duel
from stampsheets.stocks import Stock
from stampsheets.winning import is_trap, won_sheets
from tests.duelcases import PlainDuel, random_duel
from tests.plain import random_stamp

MINE = Stock(2, [("x", "a-"), ("y", "-a")])
FOES = Stock(2, [("p", "c-")])


class WonSheetsTest(unittest.TestCase):
    def test_ordinary(self):
        duel = Duel(MINE, FOES, ("aa",), 1)
        self.assertEqual(won_sheets(duel, ".."), (
            ("..", 2, ("y",)), (".a", 1, ("x",)), ("a.", 1, ("y",)), ("aa", 0, ()), ("c.", 2, ("y",)),
            ("ca", 1, ("x",)),
        ))
        self.assertEqual(won_sheets(start="ca", duel=duel), (("aa", 0, ()), ("ca", 1, ("x",))))

    def test_the_first_answer(self):
        # Either press wins in one turn; the one that comes first in the stock is given.
        self.assertEqual(won_sheets(Duel(MINE, FOES, ("a-", "-a"), 1), "..")[0], ("..", 1, ("x",)))
        self.assertEqual(won_sheets(Duel(MINE, FOES, ("aa",), None), "..")[0], ("..", 1, ("x", "y")))
        self.assertEqual(won_sheets(Duel(MINE, FOES, ("aa",), 2), "..")[0], ("..", 1, ("x", "y")))

    def test_nothing_won(self):
        self.assertEqual(won_sheets(Duel(MINE, FOES, ("aa",), 0), ".."), (("aa", 0, ()),))
        self.assertEqual(won_sheets(Duel(MINE, FOES, ("zz",), None), ".."), ())
        self.assertEqual(won_sheets(Duel(Stock(2, ()), FOES, ("zz",), 3), "zz"), (("zz", 0, ()),))

    def test_a_foe_without_stamps(self):
        self.assertEqual(won_sheets(Duel(MINE, Stock(2, ()), ("aa",), 1), ".."), (
            ("..", 2, ("x",)), (".a", 1, ("x",)), ("a.", 1, ("y",)), ("aa", 0, ()),
        ))

    def test_against_the_words(self):
        for seed in range(400):
            self.check(*random_duel(seed, 2 + seed % 2))

    def test_against_the_words_in_slow_duels(self):
        late = 0
        for seed in range(80):
            random = Random(seed)
            mine = tuple((name, "-" * cell + "a" + "-" * (2 - cell)) for cell, name in enumerate("xyz"))
            foes = tuple((name, random_stamp(random, 3, "---ac")) for name in "pq"[:random.randrange(3)])
            wishes = ("aaa", "c-a")[:random.choice([1, 2])]
            late += self.check(PlainDuel(mine, foes, wishes, random.choice([1, 1, 2])).cached(), "..c")
        self.assertGreater(late, 100)

    def check(self, plain, start):
        late = 0
        wanted = []
        for sheet in plain.sheets(start):
            turns = next((t for t in range(7) if plain.won(sheet, t)), None)
            if turns is not None:
                wanted.append((sheet, turns, () if turns == 0 else plain.winning_row(sheet, turns)))
                late += turns > 1
        self.assertEqual(won_sheets(plain.duel(), start), tuple(wanted))
        return late


class TrapTest(unittest.TestCase):
    def test_ordinary(self):
        duel = Duel(MINE.only(("x",)), Stock(2, [("p", "c-"), ("q", "-b")]), ("aa",), 1)
        self.assertIs(is_trap(duel, ["cb"]), True)
        self.assertIs(is_trap(sheets=("cb", "ab", "cb"), duel=duel), True)
        self.assertIs(is_trap(duel, ["ab", "cb"]), True)
        self.assertIs(is_trap(duel, ()), True)

    def test_each_condition_alone(self):
        duel = Duel(MINE.only(("x",)), Stock(2, [("p", "c-")]), ("aa",), 1)
        # A good sheet in the set, though every answer to it leads to a sheet that is not good or into the set.
        good = Duel(MINE, Stock(2, ()), ("aa",), 0)
        self.assertIs(is_trap(good, ["aa"]), False)
        self.assertIs(is_trap(good, ["a."]), True)
        # An answer that leads to a good sheet.
        self.assertIs(is_trap(duel, [".a"]), False)
        self.assertIs(is_trap(duel, [".b"]), False)
        # An answer behind which neither the sheet nor what the foe makes of it is in the set.
        self.assertIs(is_trap(duel, ["cb"]), True)
        self.assertIs(is_trap(duel, ["cb", ".b"]), True)
        self.assertIs(is_trap(Duel(MINE.only(("x",)), Stock(2, ()), ("aa",), 1), ["cb"]), False)
        self.assertIs(is_trap(Duel(MINE.only(("x",)), Stock(2, ()), ("aa",), 1), ["cb", "ab"]), True)
        self.assertIs(is_trap(Duel(MINE.only(("x",)), Stock(2, ()), ("aa",), 0), ["cb"]), True)

    def test_all_that_is_not_won_is_a_trap(self):
        some = 0
        for seed in range(300):
            plain, start = random_duel(seed)
            won = [row[0] for row in won_sheets(plain.duel(), start)]
            rest = [sheet for sheet in plain.sheets(start) if sheet not in won]
            some += len(rest) > 0
            self.assertIs(is_trap(plain.duel(), rest[::-1] * 2), True)
        self.assertGreater(some, 50)

    def test_against_the_words(self):
        held = 0
        for seed in range(300):
            plain, start = random_duel(seed)
            sheets = plain.sheets(start) + ("zz",)
            for k in range(6):
                random = Random(seed * 6 + k)
                chosen = [sheet for sheet in sheets if random.random() < 0.7 and (k < 3 or not plain.good(sheet))]
                random.shuffle(chosen)
                held += plain.trap(chosen) and len(chosen) > 0
                self.assertIs(is_trap(plain.duel(), chosen), plain.trap(chosen))
        self.assertGreater(held, 100)
