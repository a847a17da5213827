"""Point 71: havens, safe sheets, and plans of answers."""

import unittest
from random import Random

from stampsheets.duels import Duel
from stampsheets.havens import answer_plan, is_haven, safe_sheets
from stampsheets.stocks import Stock
from tests.duelcases import random_duel
from tests.plain import all_subsets

MINE = Stock(2, [("x", "a-"), ("y", "-b")])
FOES = Stock(2, [("p", "c-"), ("q", "-c")])
DUEL = Duel(MINE, FOES, ("a-", "-b"), 1)
EMPTY = Stock(2, ())


class HavenTest(unittest.TestCase):
    def test_ordinary(self):
        self.assertIs(is_haven(DUEL, ["ab", "ac", "cb"]), True)
        self.assertIs(is_haven(sheets=("cb", "ab", "ac", "ab"), duel=DUEL), True)
        # There is more than one haven, and there are ones outside of the sheets of a start.
        self.assertIs(is_haven(Duel(MINE, FOES, ("a-",), 1), ["ab", "ac"]), True)
        self.assertIs(is_haven(Duel(MINE, FOES, ("a-",), 1), ["ab", "ac", "a."]), True)
        self.assertIs(is_haven(Duel(MINE, FOES, ("a-",), 1), ["a.", "ac"]), True)

    def test_each_condition_alone(self):
        # A sheet that is not good, though every answer that is needed leads into the set.
        duel = Duel(MINE, EMPTY, ("a-",), 1)
        self.assertIs(is_haven(duel, ["a."]), True)
        self.assertIs(is_haven(duel, ["a.", ".."]), False)
        # A press of the foe that no answer leads back from.
        self.assertIs(is_haven(Duel(MINE, FOES.only(("p",)), ("a-",), 1), ["a."]), True)
        self.assertIs(is_haven(Duel(MINE, FOES.only(("p",)), ("a-",), 0), ["a."]), False)
        self.assertIs(is_haven(Duel(MINE, FOES, ("a-",), 1), ["a."]), False)
        self.assertIs(is_haven(Duel(MINE, FOES, ("a-",), 1), ["ac"]), True)
        # The answers may have two presses, but one is allowed.
        self.assertIs(is_haven(Duel(MINE, Stock(2, [("p", "cc")]), ("ab",), 1), ["ab"]), False)
        self.assertIs(is_haven(Duel(MINE, Stock(2, [("p", "cc")]), ("ab",), 2), ["ab"]), True)

    def test_the_empty_set_and_a_foe_without_stamps(self):
        self.assertIs(is_haven(DUEL, ()), True)
        self.assertIs(is_haven(Duel(EMPTY, EMPTY, ("a-",), 0), ["ab", "ac"]), True)
        self.assertIs(is_haven(Duel(EMPTY, EMPTY, ("a-",), 0), ["ab", "cc"]), False)
        self.assertIs(is_haven(Duel(EMPTY, FOES, ("a-",), None), ["ab"]), False)
        self.assertIs(is_haven(Duel(EMPTY, FOES, ("--",), None), ["cc"]), True)

    def test_against_the_words(self):
        held = 0
        for seed in range(200):
            plain, start = random_duel(seed)
            duel = plain.duel()
            sheets = plain.sheets(start) + ("ab", "zz")
            for k in range(8):
                random = Random(seed * 8 + k)
                chosen = [sheet for sheet in sheets if random.random() < 0.5] * random.choice([1, 2])
                random.shuffle(chosen)
                held += plain.haven(chosen) and len(chosen) > 0
                self.assertIs(is_haven(duel, chosen), plain.haven(chosen))
        self.assertGreater(held, 100)


class SafeSheetsTest(unittest.TestCase):
    def test_ordinary(self):
        self.assertEqual(safe_sheets(DUEL, ".."), (".b", "a.", "ab", "ac", "cb"))
        self.assertEqual(safe_sheets(start="cc", duel=DUEL), ("ab", "ac", "cb"))
        self.assertEqual(safe_sheets(Duel(MINE, FOES, ("ab",), 1), ".."), ("ab",))
        self.assertEqual(safe_sheets(Duel(MINE, FOES, ("ab",), 0), ".."), ())
        self.assertEqual(safe_sheets(Duel(MINE, FOES, ("ab",), None), "ab"), ("ab",))

    def test_a_foe_without_stamps(self):
        self.assertEqual(safe_sheets(Duel(MINE, EMPTY, ("a-",), 0), ".."), ("a.", "ab"))
        self.assertEqual(safe_sheets(Duel(EMPTY, EMPTY, ("a-",), 0), "ab"), ("ab",))
        self.assertEqual(safe_sheets(Duel(EMPTY, EMPTY, ("a-",), None), ".."), ())

    def test_against_all_sets(self):
        some = 0
        for seed in range(300):
            plain, start = random_duel(seed)
            sheets = plain.sheets(start)
            if len(sheets) <= 9:
                havens = [chosen for chosen in all_subsets(sheets) if plain.haven(chosen)]
                greatest = tuple(sheet for sheet in sheets if any(sheet in haven for haven in havens))
                some += len(greatest) < len([sheet for sheet in sheets if plain.good(sheet)])
                self.assertEqual(safe_sheets(plain.duel(), start), greatest)
                self.assertIs(is_haven(plain.duel(), greatest[::-1] * 2), True)
        self.assertGreater(some, 20)

    def test_good_sheets_that_are_not_safe(self):
        foes = FOES.only(("q",))
        self.assertEqual(safe_sheets(Duel(MINE, foes, ("a-", "-b"), 0), ".."), ("a.", "ab", "ac"))
        self.assertEqual(safe_sheets(Duel(MINE.only(("x",)), foes, ("a-", "-b"), 0), ".b"), ("ab", "ac"))
        # A foe who can spoil both cells in two rounds makes every sheet bad in the end.
        chain = Stock(2, [("p", "d-"), ("q", "-d")])
        self.assertEqual(safe_sheets(Duel(MINE, chain, ("--",), 0), ".."), (
            "..", ".b", ".d", "a.", "ab", "ad", "d.", "db", "dd"))
        self.assertEqual(safe_sheets(Duel(MINE, chain, ("a-", "-b", ".-"), 0), ".."), ())

    def test_against_losses_on_larger_duels(self):
        for seed in range(60):
            plain, start = random_duel(seed, 3)
            sheets = plain.sheets(start)
            wanted = tuple(sheet for sheet in sheets if not plain.lost(sheet, 4))
            if not any(plain.lost(sheet, 5) for sheet in wanted):
                self.assertEqual(safe_sheets(plain.duel(), start), wanted)

    def test_many_sheets(self):
        mine = Stock(5, [(name, "-" * k + "a" + "-" * (4 - k)) for k, name in enumerate("stuvw")])
        foes = Stock(5, [(name, "-" * k + "b" + "-" * (4 - k)) for k, name in enumerate("stuvw")])
        self.assertEqual(len(safe_sheets(Duel(mine, foes, ("a----", "-a---"), None), ".....")), 135)
        self.assertEqual(len(safe_sheets(Duel(mine, foes, ("aaaa-",), 1), ".....")), 3)
        self.assertEqual(len(safe_sheets(Duel(mine, foes, ("aaaa-",), 0), ".....")), 0)


class AnswerPlanTest(unittest.TestCase):
    def test_ordinary(self):
        self.assertEqual(answer_plan(Duel(MINE, FOES, ("ab",), 1), ".."), (
            ("ab", "", ()), ("ab", "p", ("x",)), ("ab", "q", ("y",)),
        ))
        self.assertEqual(answer_plan(duel=DUEL, start="ac"), (
            ("ab", "", ()), ("ab", "p", ()), ("ab", "q", ()),
            ("ac", "", ()), ("ac", "p", ("x",)), ("ac", "q", ()),
            ("cb", "", ()), ("cb", "p", ()), ("cb", "q", ("x",)),
        ))

    def test_nothing_safe_and_a_foe_without_stamps(self):
        self.assertEqual(answer_plan(Duel(MINE, FOES, ("ab",), 0), ".."), ())
        self.assertEqual(answer_plan(Duel(MINE, EMPTY, ("ab",), 0), ".."), (("ab", "", ()),))

    def test_two_stamps_under_two_names(self):
        foes = Stock(2, [("q", "c-"), ("p", "c-")])
        self.assertEqual(answer_plan(Duel(MINE, foes, ("a-",), 1), "ab"), (
            ("ab", "", ()), ("ab", "q", ("x",)), ("ab", "p", ("x",)),
        ))

    def test_against_the_words(self):
        for seed in range(200):
            plain, start = random_duel(seed)
            safe = safe_sheets(plain.duel(), start)
            wanted = [
                (sheet, name, next(row for row, after in plain.answers(made) if after in safe))
                for sheet in safe for name, made in plain.deeds(sheet)
            ]
            self.assertEqual(answer_plan(plain.duel(), start), tuple(wanted))
