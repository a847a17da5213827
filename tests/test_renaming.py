"""Point 86: other names for marks and other places for cells, and that they change no answer."""

import unittest
from random import Random

from stampsheets.boxes import Box
from stampsheets.chances import chance_sum, long_chance
from stampsheets.choices import choice_count, least_choices
from stampsheets.claimchances import claim_chances
from stampsheets.claims import Claim
from stampsheets.commons import possible_uses, sure_pairs, sure_uses
from stampsheets.comparing import compare_stocks
from stampsheets.counting import row_sum
from stampsheets.duels import Duel
from stampsheets.fastness import fast_cells, fast_sets
from stampsheets.freeing import freed_layers, step_table
from stampsheets.havens import safe_sheets
from stampsheets.hurdles import least_hurdles
from stampsheets.inners import stamp_making
from stampsheets.makings import making
from stampsheets.orders import all_orders, order_count
from stampsheets.prices import cheapest
from stampsheets.renaming import moved, moved_stock, recoloured, recoloured_stock
from stampsheets.restoring import least_most
from stampsheets.rowlists import row_count, rows_with
from stampsheets.shortest import distance, shortest_count, shortest_row
from stampsheets.stocks import Stock
from stampsheets.topsets import stuck_names, top_sets
from stampsheets.verdicts import verdict
from tests.chancecases import random_chances
from tests.claimcases import random_claim
from tests.plain import press_row, random_layer, random_pairs

SWAP = (("a", "."), (".", "b"), ("b", "a"))
STOCK = Stock(3, [("x", "a-b"), ("y", "-.z")])


class RecolouredTest(unittest.TestCase):
    def test_ordinary(self):
        self.assertEqual(recoloured("ab.-z", SWAP), ".ab-z")
        self.assertEqual(recoloured(pairs=[["a", "b"], ["b", "a"]], layer="abc--"), "bac--")
        self.assertEqual(recoloured("ab.-", ()), "ab.-")
        self.assertEqual(recoloured("ab.-", [("a", "q")]), "qb.-")
        self.assertEqual(recoloured("-", [("a", "q")]), "-")

    def test_marks_that_do_not_occur(self):
        self.assertEqual(recoloured("ab", [("x", "y"), ("c", "c"), ("a", "a")]), "ab")
        every = ".abcdefghijklmnopqrstuvwxyz"
        self.assertEqual(recoloured(every, list(zip(every, every[1:] + every[0]))), every[1:] + every[0])

    def test_stock(self):
        self.assertEqual(recoloured_stock(STOCK, SWAP), Stock(3, [("x", ".-a"), ("y", "-bz")]))
        self.assertEqual(recoloured_stock(pairs=(), stock=STOCK), STOCK)
        self.assertEqual(recoloured_stock(Stock(2, ()), SWAP), Stock(2, ()))


class MovedTest(unittest.TestCase):
    def test_ordinary(self):
        self.assertEqual(moved("abc", (2, 0, 1)), "cab")
        self.assertEqual(moved(cells=[0, 1, 2], layer="a-c"), "a-c")
        self.assertEqual(moved("a", [0]), "a")
        self.assertEqual(moved("abcd", (1, 3, 0, 2)), "bdac")

    def test_stock(self):
        self.assertEqual(moved_stock(STOCK, (2, 0, 1)), Stock(3, [("x", "ba-"), ("y", "z-.")]))
        self.assertEqual(moved_stock(cells=[1, 0, 2], stock=Stock(3, ())), Stock(3, ()))


def renaming_of_marks(random):
    marks = list("ab.zq")
    images = list(marks)
    random.shuffle(images)
    return tuple(zip(marks, images))


class NothingChangesTest(unittest.TestCase):
    """Compare everything that is asked with the same for renamed layers."""

    def each_case(self, many):
        for seed in range(many):
            random = Random(seed)
            pairs = random_pairs(seed, 3, random.randrange(1, 4))
            start = random_layer(random, 3, "--.az")
            seen = random_layer(random, 3, "-ab.")
            if random.random() < 0.7:
                row = [random.choice("xyz"[:len(pairs)]) for _ in range(4)]
                seen = "".join("-" if random.random() < 0.3 else sign
                               for sign in press_row(pairs, start.replace("-", "z"), row))
            colours, cells = renaming_of_marks(random), random.sample(range(3), 3)
            stock = Stock(3, pairs)
            yield seed, stock, start, seen, Renamed(
                recoloured_stock(stock, colours), lambda layer, c=colours: recoloured(layer, c), (0, 1, 2))
            yield seed, stock, start, seen, Renamed(
                moved_stock(stock, cells), lambda layer, c=cells: moved(layer, c), cells)

    def test_what_can_be_made(self):
        for seed, stock, start, seen, other in self.each_case(150):
            one, two = making(stock, start, seen), making(other.stock, other.of(start), other.of(seen))
            self.assertEqual((one.made, one.row), (two.made, two.row))
            self.assertEqual(other.set_of(one.cells), two.cells)
            self.assertEqual(other.set_of(fast_cells(stock, seen)), fast_cells(other.stock, other.of(seen)))
            self.assertEqual({other.set_of(cells) for cells in fast_sets(stock, seen)},
                             set(fast_sets(other.stock, other.of(seen))))
            self.assertEqual({other.of(layer) for layer in freed_layers(stock, seen)},
                             set(freed_layers(other.stock, other.of(seen))))
            self.assertEqual({(other.of(layer), steps) for layer, steps in step_table(stock, seen)},
                             set(step_table(other.stock, other.of(seen))))

    def test_shortest_and_cheapest_rows(self):
        for seed, stock, start, seen, other in self.each_case(150):
            ends = start, seen
            images = other.of(start), other.of(seen)
            for function in (distance, shortest_row, shortest_count, sure_uses, possible_uses, sure_pairs, order_count,
                             row_sum):
                self.assertEqual(function(stock, *ends), function(other.stock, *images), function)
            prices = [Random(seed + k).randrange(5) for k in range(len(stock))]
            one, two = cheapest(stock, prices, *ends), cheapest(other.stock, prices, *images)
            self.assertEqual((one.cost, one.row), (two.cost, two.row))
            self.assertEqual({(other.of(left), cost) for left, cost in one.table}, set(two.table))
            self.assertEqual(list(all_orders(stock, *ends)), list(all_orders(other.stock, *images)))
            self.assertEqual(top_sets(stock, seen), top_sets(other.stock, other.of(seen)))
            self.assertEqual(stuck_names(stock, seen), stuck_names(other.stock, other.of(seen)))

    def test_chances_and_claims(self):
        for seed, stock, start, seen, other in self.each_case(60):
            ends = start, seen
            images = other.of(start), other.of(seen)
            chances = random_chances(seed, len(stock))
            self.assertEqual(chance_sum(stock, chances, *ends), chance_sum(other.stock, chances, *images))
            self.assertEqual(long_chance(stock, chances, *ends), long_chance(other.stock, chances, *images))
            # Claims about cells speak of the moved cells.
            claim = random_claim(seed, stock, 2)
            image = other.claim(claim.tree)
            one, two = verdict(*ends, claim), verdict(*images, image)
            self.assertEqual((one.word, one.keeping, one.breaking), (two.word, two.keeping, two.breaking))
            self.assertEqual({(other.of(left), mark) for left, mark in one.table}, set(two.table))
            self.assertEqual(list(rows_with(*ends, claim, longest=4)), list(rows_with(*images, image, longest=4)))
            self.assertEqual(row_count(*ends, claim, 6), row_count(*images, image, 6))
            self.assertEqual(claim_chances(chances, *ends, claim, 5), claim_chances(chances, *images, image, 5))

    def test_stocks_boxes_and_duels(self):
        for seed, stock, start, seen, other in self.each_case(60):
            ends = start, seen
            images = other.of(start), other.of(seen)
            stamp = seen if seen != "---" else "a--"
            one, two = stamp_making(stock, stamp), stamp_making(other.stock, other.of(stamp))
            self.assertEqual((one.made, one.row, other.set_of(one.cells)), (two.made, two.row, two.cells))
            half = stock.names[:2]
            one = compare_stocks(stock.only(half), stock)
            two = compare_stocks(other.stock.only(half), other.stock)
            self.assertEqual((one.word, one.rows, one.missing), (two.word, two.rows, two.missing))
            self.assertEqual((one.other_rows, one.other_missing), (two.other_rows, two.other_missing))
            one, two = Box(stock, [ends, ("...", seen)]), Box(other.stock, [images, (other.of("..."), other.of(seen))])
            for function in (least_choices, choice_count, least_hurdles):
                self.assertEqual(function(one), function(two))
            sheet = start.replace("-", "z")
            mine, foes = stock.only(stock.names[:2]), stock.without(stock.names[:1])
            theirs, others = other.stock.only(stock.names[:2]), other.stock.without(stock.names[:1])
            self.assertEqual(least_most(mine, foes, [seen], sheet),
                             least_most(theirs, others, [other.of(seen)], other.of(sheet)))
            safe = safe_sheets(Duel(mine, foes, [seen], 1), sheet)
            self.assertEqual({other.of(one) for one in safe},
                             set(safe_sheets(Duel(theirs, others, [other.of(seen)], 1), other.of(sheet))))


class Renamed:
    """A renamed stock, and how layers and cells are renamed for it."""

    def __init__(self, stock, of, cells):
        self.stock, self.of, self.cells = stock, of, list(cells)

    def set_of(self, cells):
        return tuple(sorted(self.cells.index(cell) for cell in cells))

    def claim(self, tree):
        if tree[0] == "atom":
            atom = tree[1]
            if atom[0] == "top":
                atom = ("top", self.cells.index(atom[1]), atom[2])
            return Claim.of(self.stock, atom)
        if tree[0] == "not":
            return ~self.claim(tree[1])
        one, two = self.claim(tree[1]), self.claim(tree[2])
        return one & two if tree[0] == "and" else one | two
