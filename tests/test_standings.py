"""Point 31: standings."""

import unittest

from stampsheets.claims import Claim
from stampsheets.freeing import freed_layers, step_table
from stampsheets.marks import first_mark, next_mark
from stampsheets.standings import reached_standings, standing_moves
from stampsheets.stocks import Stock
from tests.claimcases import random_claim
from tests.plain import random_pairs

STOCK = Stock(2, [("x", "a-"), ("y", "-b"), ("z", "c-")])


class StandingsTest(unittest.TestCase):
    def test_moves(self):
        claim = Claim.of(STOCK, ("used", "x", 2)) & Claim.of(STOCK, ("ends", "y"))
        self.assertEqual(standing_moves(claim, ("ab", (0, 0))), (("x", ("-b", (1, 2))), ("y", ("a-", (0, 1)))))
        self.assertEqual(standing_moves(claim, ["--", [2, 1]]), (
            ("x", ("--", (2, 1))), ("y", ("--", (2, 1))), ("z", ("--", (2, 1)))))
        self.assertEqual(standing_moves(standing=("..", (0, 0)), claim=claim), ())

    def test_reached(self):
        claim = Claim.of(STOCK, ("ends", "y"))
        self.assertEqual(reached_standings("ab", claim), (
            ("ab", (0,)), ("-b", (2,)), ("a-", (1,)), ("--", (1,)), ("--", (2,))))
        self.assertEqual(reached_standings(claim=claim, seen=".."), (("..", (0,)),))

    def test_order_of_marks(self):
        claim = Claim.of(STOCK, ("begins", "x")) & Claim.of(STOCK, ("ends", "y"))
        found = reached_standings("--", claim)
        self.assertEqual(found, (("--", (0, 0)), ("--", (0, 1)), ("--", (0, 2)), ("--", (1, 2)), ("--", (1, 1))))

    def test_small(self):
        for seed in range(60):
            stock = Stock(2, random_pairs(seed, 2, 3))
            claim = random_claim(seed, stock, seed % 3 + 1)
            for seen in ["ab", "a-", "--", ".a"]:
                self.assertEqual(reached_standings(seen, claim), plain_standings(stock, seen, claim))
                layers = {left for left, mark in reached_standings(seen, claim)}
                self.assertEqual(layers, set(freed_layers(stock, seen)))

    def test_a_claim_of_one_atom_that_is_never_read(self):
        stock = Stock(2, [("x", "a-"), ("y", "-b"), ("q", "qq")])
        claim = Claim.of(stock, ("used", "q", 1))
        wanted = tuple((left, (0,)) for left, steps in step_table(stock, "ab") if left != "--")
        self.assertEqual(reached_standings("ab", claim)[:3], wanted)


def plain_standings(stock, seen, claim):
    """Return all standings by rounds over all of them, then sorted in the words of point 31."""
    moves = {(seen, first_mark(claim)): 0}
    number = 0
    while number in moves.values():
        for (left, mark), many in list(moves.items()):
            for name, stamp in stock if many == number else ():
                if all(a == b or "-" in (a, b) for a, b in zip(left, stamp)):
                    after = "".join(a if b == "-" else "-" for a, b in zip(left, stamp))
                    moves.setdefault((after, next_mark(claim, mark, name)), number + 1)
        number += 1
    return tuple(sorted(moves, key=lambda one: (moves[one], one[0], one[1])))
