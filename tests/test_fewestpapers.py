"""Point 54: papers for the fewest names."""

import unittest

from stampsheets.boxes import Box, refusal_of
from stampsheets.choices import fewest_names
from stampsheets.errors import UnknownName
from stampsheets.fewestpapers import fewest_paper, is_fewest_paper
from stampsheets.stocks import Stock
from tests.boxcases import box_of, random_box
from tests.plain import all_subsets, explaining, in_order

STOCK = Stock(3, [("x", "a--"), ("y", "-b-"), ("z", "--c"), ("w", "ab-")])
BOX = Box(STOCK, [("...", "ab."), ("-..", "..c")])


class FewestPaperTest(unittest.TestCase):
    def test_own_paper(self):
        self.assertEqual(fewest_names(BOX), ("z", "w"))
        self.assertEqual(fewest_paper(BOX), ((0, (0, 1, 2)), (0, (1, 2)), (0, (0, 2)), (1, (0, 1, 2))))
        self.assertIs(is_fewest_paper(BOX, ("z", "w"), fewest_paper(box=BOX)), True)

    def test_no_set_and_the_empty_set(self):
        self.assertIsNone(fewest_paper(Box(STOCK, [("...", "q..")])))
        for box in [Box(STOCK, ()), Box(STOCK, [("...", "-.."), ("ab-", "abc")]), Box(Stock(3, ()), ())]:
            self.assertEqual(fewest_paper(box), ())
            self.assertIs(is_fewest_paper(box, (), ()), True)
            self.assertIs(is_fewest_paper(box, [], [[0, [0]]] if len(box) else []), len(box) == 0)
        self.assertIsNone(fewest_paper(Box(Stock(1, ()), [("a", "b")])))

    def test_other_papers(self):
        # One case for what must be there in every explanation of the first pair, one for z.
        cases = [[1, [2]], [0, [1, 1]], [0, (0,)]]
        self.assertIs(is_fewest_paper(BOX, ["w", "z", "w"], cases), True)
        self.assertIs(is_fewest_paper(BOX, ("z", "w"), cases[::-1] * 2), True)
        self.assertIs(is_fewest_paper(cases=cases, names=("z", "w"), box=BOX), True)
        self.assertIs(is_fewest_paper(BOX, ("z", "w"), cases + [[0, [1, 0]], [1, [2]]]), True)

    def test_the_set_explains_the_box(self):
        cases = [(1, (2,)), (0, (1,)), (0, (0,))]
        for names in [("x", "y"), ("z",), (), ("x", "z"), ("w",)]:
            self.assertIs(is_fewest_paper(BOX, names, cases), False)

    def test_each_case_is_valid(self):
        cases = [(1, (2,)), (0, (1,)), (0, (0,))]
        # start and seen do not differ there; start has no mark there; no cell at all.
        for case in [(0, (2,)), (1, (0,)), (1, ()), (0, ())]:
            self.assertIs(is_fewest_paper(BOX, ("z", "w"), cases + [case]), False, case)
        # seen has no mark there.
        box = BOX.with_pair("...", "ab-")
        self.assertIs(is_fewest_paper(box, ("z", "w"), cases + [(2, (0, 1))]), True)
        self.assertIs(is_fewest_paper(box, ("z", "w"), cases + [(2, (0, 2))]), False)
        self.assertIs(is_fewest_paper(box, ("z", "w"), cases + [(2, (2,))]), False)
        # It is enough that one of the cells differs.
        self.assertIs(is_fewest_paper(BOX, ("z", "w"), cases + [(0, (2, 1))]), True)

    def test_every_smaller_set_is_barred(self):
        cases = [(1, (2,)), (0, (1,)), (0, (0,))]
        self.assertIs(is_fewest_paper(BOX, ("z", "w"), cases[1:]), False)
        self.assertIs(is_fewest_paper(BOX, ("z", "w"), cases[:1]), False)
        self.assertIs(is_fewest_paper(BOX, ("z", "w"), cases[:2]), True)
        self.assertIs(is_fewest_paper(BOX, ("z", "w"), ()), False)
        # Three names explain the box, too, but no paper shows that fewer do not.
        self.assertIs(is_fewest_paper(BOX, ("x", "y", "z"), cases), False)
        self.assertIs(is_fewest_paper(BOX, ("x", "y", "z"), fewest_paper(BOX)), False)
        self.assertIs(is_fewest_paper(BOX, ("z", "w", "z", "z"), cases), True)

    def test_unknown_names_come_first(self):
        for cases in [(), [(0, ())]]:
            for names, name in [(("z", "q", "p"), "q"), (["no name"], "no name"), (("", "z"), "")]:
                with self.assertRaises(UnknownName) as caught:
                    is_fewest_paper(BOX, names, cases)
                self.assertEqual(caught.exception.name, name)

    def test_seven_stamps(self):
        stock = Stock(4, [(f"n{k}", "-" * (k % 4) + "a" + "-" * (3 - k % 4)) for k in range(7)])
        box = Box(stock, [("....", "aaaa")] * 4)
        self.assertEqual(fewest_names(box), ("n0", "n1", "n2", "n3"))
        self.assertIs(is_fewest_paper(box, ("n6", "n5", "n4", "n3"), [(3, (k,)) for k in range(4)]), True)
        self.assertIs(is_fewest_paper(box, ("n6", "n5", "n4", "n3"), [(3, (k,)) for k in range(3)]), False)

    def test_against_all_sets(self):
        for seed in range(150):
            pairs, couples = random_box(seed)
            box = box_of(pairs, couples)
            sets = in_order("xyzu", explaining(pairs, couples))
            if not sets:
                self.assertIsNone(fewest_paper(box))
                continue
            fewer = in_order("xyzu", [one for one in all_subsets("xyzu") if len(one) < len(sets[0])])
            wanted = list(dict.fromkeys(refusal_of(box, one)[:2] for one in fewer))
            self.assertEqual(fewest_paper(box), tuple(wanted))
            for names in all_subsets("xyzu"):
                shown = names in sets and len(names) == len(sets[0])
                self.assertIs(is_fewest_paper(box, names, wanted), shown)
