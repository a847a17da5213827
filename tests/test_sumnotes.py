"""Point 97: rows and power sums as text."""

import re
import unittest
from fractions import Fraction
from random import Random

from stampsheets.errors import BadNote, UnknownName
from stampsheets.powersums import PowerSum
from stampsheets.stocks import Stock
from stampsheets.sumnotes import format_power_sum, format_row, parse_power_sum, parse_row
from tests.chancecases import pair_of
from tests.notecases import fault

STOCK = Stock(1, [("x", "a"), ("y", "b"), ("long1234", "c")])
TOTAL = PowerSum([((1, 3), (-1, 2)), ((-2, 1), (4, 1)), ((0, 1), (7, 5)), ((1, 1), (-3, 1))])
TEXT = "4 * (-2) ** n + 7/5 * (0) ** n + -1/2 * (1/3) ** n + -3 * (1) ** n"


class RowNotesTest(unittest.TestCase):
    def test_ordinary(self):
        self.assertEqual(format_row(("x", "y", "x")), "x y x")
        self.assertEqual(format_row(row=["long1234"]), "long1234")
        self.assertEqual(format_row(()), "")
        self.assertEqual(parse_row(STOCK, "x y x"), ("x", "y", "x"))
        self.assertEqual(parse_row(text="long1234", stock=STOCK), ("long1234",))
        self.assertEqual(parse_row(STOCK, ""), ())
        self.assertEqual(parse_row(Stock(1, ()), ""), ())
        row = ("x", "long1234", "y") * 20
        self.assertEqual(parse_row(STOCK, format_row(row)), row)
        # Names of no stock at all may be written, too.
        self.assertEqual(format_row(["q", "p"]), "q p")

    def test_empty_pieces_come_first(self):
        for text in [" ", "  ", "x ", " x", "x  y", "q  x", "q ", " q", "x y  "]:
            self.assertEqual(fault(parse_row, STOCK, text), (BadNote, 0), repr(text))

    def test_unknown_names(self):
        for text, name in [
            ("q", "q"), ("x q p", "q"), ("x\ny", "x\ny"), ("\n", "\n"), ("x y\n", "y\n"), ("X", "X"), ("x,y", "x,y"),
            ("xy", "xy"),
        ]:
            self.assertEqual(fault(parse_row, STOCK, text), (UnknownName, name), repr(text))
        self.assertEqual(fault(parse_row, Stock(1, ()), "x"), (UnknownName, "x"))


class SumNotesTest(unittest.TestCase):
    def test_ordinary(self):
        self.assertEqual(format_power_sum(TOTAL), TEXT)
        self.assertEqual(parse_power_sum(TEXT), TOTAL)
        self.assertEqual(parse_power_sum(text=format_power_sum(power_sum=TOTAL)).terms, TOTAL.terms)
        self.assertEqual(format_power_sum(PowerSum([((1, 2), (1, 1))])), "1 * (1/2) ** n")
        self.assertEqual(parse_power_sum("-1/7 * (-3/2) ** n"), PowerSum([((-3, 2), (-1, 7))]))

    def test_no_terms(self):
        self.assertEqual(format_power_sum(PowerSum(())), "0")
        self.assertEqual(parse_power_sum("0"), PowerSum(()))

    def test_long_numbers(self):
        top, bottom = 10 ** 199 + 7, 10 ** 199 + 9
        total = PowerSum([((top, bottom), (-bottom, top)), ((-top, 1), (1, bottom)), ((bottom, 1), (top, 1))])
        text = format_power_sum(total)
        self.assertIn(f"-{bottom}/{top} * ({top}/{bottom}) ** n", text)
        self.assertEqual(parse_power_sum(text), total)

    def test_one_fault_each(self):
        for text in [
            "", " ", "0 ", " 0", "00", "-0", "1", "-1", "n", "0\n", "1 * (2)", "1 * (2) ** m", "1 * 2 ** n",
            "(2) ** n", "1 * (2) ** n ",
            " 1 * (2) ** n", "1 * (2) ** n\n", "1*(2) ** n", "1 *(2) ** n", "1 * (2)** n", "1 * (2) **n",
            "1  * (2) ** n", "+1 * (2) ** n",
            "01 * (2) ** n", "1 * (02) ** n", "0 * (2) ** n", "-0 * (2) ** n", "1 * (-0) ** n", "2/4 * (2) ** n",
            "1/1 * (2) ** n", "1 * (2/1) ** n", "1 * (4/2) ** n", "1/0 * (2) ** n", "0/1 * (2) ** n", "0/0 * (2) ** n",
            "1/-2 * (2) ** n", "-1/-2 * (2) ** n",
            "1/02 * (2) ** n", "--1 * (2) ** n", "1/ * (2) ** n", "/2 * (2) ** n", "1/2/3 * (2) ** n",
            "1 /2 * (2) ** n", "- 1 * (2) ** n",
            "1.5 * (2) ** n", "1 * (-1/2) ** n + ", "1 * (2) ** n + 1 * (2) ** n", "1 * (2) ** n + 1 * (1) ** n",
            "1 * (1/2) ** n + 1 * (1/3) ** n", "1 * (2) ** n + 0", "0 + 1 * (2) ** n", "1 * (2) ** n +1 * (3) ** n",
            "1 * (2) ** n  + 1 * (3) ** n", "1 * (2) ** n - 1 * (3) ** n", " + 1 * (2) ** n",
            "1 * (2) ** n1 * (3) ** n", " * () ** n",
            "1 * () ** n", "1 * ((2)) ** n", "1 * (2)) ** n", "1 * (2) ** n) ** n", "1 * (1 * (2) ** n",
            "1_0 * (2) ** n", "1 * (1_0) ** n",
            "a * (2) ** n", "1 * (2) ** n + 1 * (3) ** n + 1 * (3) ** n", "1e2 * (2) ** n", "1 * (+2) ** n",
            "1 * ( 2) ** n",
        ]:
            self.assertEqual(fault(parse_power_sum, text), (BadNote, 0), repr(text))

    def test_exactly_what_format_returns(self):
        accepted = 0
        for seed in range(3000):
            random = Random(seed)
            terms = []
            for _ in range(random.randrange(4)):
                numbers = [Fraction(random.randrange(-3, 4), random.randrange(1, 4)) for _ in range(2)]
                terms.append(tuple(pair_of(number) for number in numbers))
            total = PowerSum(terms)
            text = format_power_sum(total)
            self.assertEqual(parse_power_sum(text), total)
            text = list(text)
            for _ in range(random.randrange(3)):
                at = random.randrange(len(text) + 1)
                text[at:at + random.randrange(2)] = random.choice(["", "1", "2", "-", "/2", " ", "0"])
            text = "".join(text)
            if plainly_right(text):
                accepted += 1
                self.assertEqual(format_power_sum(parse_power_sum(text)), text)
            else:
                self.assertEqual(fault(parse_power_sum, text), (BadNote, 0), repr(text))
        self.assertGreater(accepted, 1000)


def plainly_right(text):
    """Say whether the text is that of a power sum, in the words of point 97."""
    if text == "0":
        return True
    number = "(0|-?[1-9][0-9]*)(?:/([1-9][0-9]*))?"
    bases = []
    for piece in text.split(" + "):
        found = re.fullmatch(number + r" \* \(" + number + r"\) \*\* n", piece)
        if not found:
            return False
        for top, bottom in (found.group(1, 2), found.group(3, 4)):
            whole = Fraction(int(top), int(bottom or 1))
            if bottom is not None and (whole.denominator != int(bottom) or bottom == "1"):
                return False
        bases.append(whole)
        if found[1] == "0":
            return False
    return bases == sorted(set(bases))
