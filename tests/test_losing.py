"""Point 72: ranks of sheets that are not safe, and loss tables."""

import unittest
from random import Random

from stampsheets.duels import Duel
from stampsheets.havens import safe_sheets
from stampsheets.losing import is_loss_table, loss_table
from stampsheets.stocks import Stock
from tests.duelcases import random_duel

# The foe spoils one cell after the other; I can restore only the first.
MINE = Stock(3, [("x", "a--")])
FOES = Stock(3, [("p", "c--"), ("q", "-c-"), ("r", "--c")])
DUEL = Duel(MINE, FOES, ("a--", "-b-", "--b"), 0)
TABLE = (
    ("ab.", 2, "p"), ("ac.", 1, "p"), ("cb.", 1, "q"), ("cc.", 0, None),
)


class LossTableTest(unittest.TestCase):
    def test_ordinary(self):
        duel = Duel(MINE, FOES.without(("r",)), ("a--", "-b-"), 0)
        self.assertEqual(loss_table(duel, "cb."), TABLE)
        self.assertEqual(loss_table(start="ab.", duel=duel), TABLE)
        found = dict((sheet, (rank, name)) for sheet, rank, name in loss_table(DUEL, "abb"))
        self.assertEqual(found["abb"], (3, "p"))
        self.assertEqual(found["cbb"], (2, "q"))
        self.assertEqual(found["ccb"], (1, "r"))
        self.assertEqual(found["ccc"], (0, None))

    def test_nothing_lost(self):
        self.assertEqual(loss_table(Duel(MINE, FOES, ("---",), 0), "abb"), ())
        self.assertEqual(loss_table(Duel(MINE, Stock(3, ()), ("a--",), 0), "abb"), ())
        self.assertEqual(loss_table(Duel(MINE, FOES.only(("p",)), ("a--",), 1), "abb"), (("cbb", 0, None),))

    def test_a_foe_without_stamps_and_no_stamps(self):
        self.assertEqual(loss_table(Duel(MINE, Stock(3, ()), ("a--",), 0), "..."), (("...", 0, None),))
        self.assertEqual(loss_table(Duel(Stock(1, ()), Stock(1, ()), ("a",), None), "b"), (("b", 0, None),))

    def test_the_first_name(self):
        foes = Stock(1, [("q", "c"), ("p", "c"), ("a", "c")])
        self.assertEqual(loss_table(Duel(Stock(1, ()), foes, ("-a", "a")[1:], 0), "a"), (("a", 1, "q"), ("c", 0, None)))
        # A press that changes nothing loses nothing.
        foes = Stock(1, [("q", "a"), ("p", "c")])
        self.assertEqual(loss_table(Duel(Stock(1, ()), foes, ("a",), 0), "a"), (("a", 1, "p"), ("c", 0, None)))

    def test_against_the_words(self):
        deep = 0
        for seed in range(900):
            plain, start = random_duel(seed, 2 + seed % 2)
            table = loss_table(plain.duel(), start)
            wanted = []
            for sheet in plain.sheets(start):
                rank = next((r for r in range(7) if plain.lost(sheet, r)), None)
                if rank is not None:
                    wanted.append((sheet, rank, None if rank == 0 else plain.blow(sheet, rank)))
                    deep += rank > 1
            self.assertEqual(table, tuple(wanted))
            safe = safe_sheets(plain.duel(), start)
            self.assertEqual(sorted(safe + tuple(row[0] for row in table)), list(plain.sheets(start)))
            self.assertIs(is_loss_table(plain.duel(), table), True)
        self.assertGreater(deep, 5)


class IsLossTableTest(unittest.TestCase):
    def setUp(self):
        self.duel = Duel(MINE, FOES.without(("r",)), ("a--", "-b-"), 0)

    def check(self, table, wanted):
        self.assertIs(is_loss_table(self.duel, table), wanted)
        self.assertIs(is_loss_table(table=[list(row) for row in table], duel=self.duel), wanted)

    def test_own_tables(self):
        self.check(TABLE, True)
        self.check((), True)
        self.check(TABLE[1:], True)
        self.check(TABLE[::-1] * 2, True)

    def test_other_tables(self):
        # Other names and greater ranks than needed, several ranks for a sheet.
        self.check((("cc.", 0, "no name"), ("ac.", 7, "p")), True)
        self.check((("cc.", 0, ""), ("cb.", 1, "q"), ("ac.", 1, "p"), ("ab.", 2, "q")), True)
        self.check(TABLE + (("ab.", 9, "q"), ("ac.", 4, "p")), True)
        # A sheet that is not good may have another rank; passing does it if the sheet is in the table.
        self.check((("cc.", 0, None), ("cc.", 3, "")), True)
        self.check((("cc.", 0, None), ("cc.", 1, "p")), True)
        self.check((("zzz", 0, "q"),), True)

    def test_negative_ranks(self):
        self.check((("cc.", -1, None),), False)
        self.check((("cc.", 0, None), ("cc.", -1, "p")), False)

    def test_rank_0_for_a_good_sheet(self):
        self.check((("ac.", 0, "p"),), False)
        self.check((("cc.", 0, None), ("ac.", 0, "p")), False)

    def test_names_that_the_foe_does_not_have(self):
        for name in [None, "x", "r", "no name"]:
            self.check((("cc.", 0, None), ("ac.", 1, name)), False)
        self.check((("cc.", 0, None), ("ac.", 1, "")), False)

    def test_answers_without_a_lesser_rank(self):
        self.check((("ac.", 1, "p"),), False)
        self.check((("cc.", 0, None), ("ac.", 1, "q")), False)
        self.check((("cc.", 0, None), ("ac.", 1, "p"), ("ab.", 1, "q")), False)
        self.check((("cc.", 0, None), ("ac.", 1, "p"), ("ab.", 2, "q")), True)
        self.check((("cc.", 0, None), ("ac.", 2, "p"), ("ab.", 2, "q")), False)
        self.check((("cc.", 0, None), ("ac.", 2, "p"), ("ab.", 2, "q"), ("ac.", 1, "p")), True)

    def test_every_answer_counts(self):
        table = (("cc.", 0, None), ("ac.", 1, "p"))
        self.assertIs(is_loss_table(self.duel, table), True)
        self.assertIs(is_loss_table(Duel(MINE, self.duel.foes, ("a--", "-b-"), 1), table), False)
        self.assertIs(is_loss_table(Duel(MINE, self.duel.foes, ("a--", "-b-"), None), table), False)

    def test_against_the_words(self):
        held = 0
        for seed in range(300):
            plain, start = random_duel(seed)
            random = Random(seed)
            sheets = plain.sheets(start)
            names = [None, "", "x", "p", "q", "r"]
            table = [row if random.random() < 0.7 else (row[0], random.randrange(-1, 4), random.choice(names))
                     for row in loss_table(plain.duel(), start)]
            for _ in range(random.randrange(0, 3)):
                table.append((random.choice(sheets), random.randrange(-1, 4), random.choice(names)))
            random.shuffle(table)
            wanted = all(self.shown(plain, table, row) for row in table)
            held += wanted and len(table) > 1
            self.assertIs(is_loss_table(plain.duel(), table), wanted)
        self.assertGreater(held, 40)

    def shown(self, plain, table, row):
        sheet, rank, name = row
        if rank <= 0:
            return rank == 0 and not plain.good(sheet)
        made = dict(plain.deeds(sheet)).get(name)
        return made is not None and all(
            any(other == after and less < rank for other, less, _ in table) for _, after in plain.answers(made))
