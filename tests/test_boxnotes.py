"""Point 96: boxes as text."""

import re
import unittest
from random import Random

from stampsheets.boxes import Box
from stampsheets.boxnotes import format_box, parse_box
from stampsheets.errors import BadNote
from stampsheets.stocks import Stock
from tests.notecases import fault, random_stock
from tests.plain import random_layer

STOCK = Stock(2, [("x", "a-"), ("pair", "ab"), ("y", "-b")])
BOX = Box(STOCK, [("..", "ab"), ("--", "-b")])
TEXT = "stock 2\nx a-\npair ab\ny -b\npair .. ab\npair -- -b"


def first_bad_line(text):
    """Return the number of the first line that cannot stand there, in the words of point 96."""
    lines = text.split("\n")
    if not re.fullmatch("stock ([1-9]|[12][0-9]|30)", lines[0]):
        return 0
    size = int(lines[0][6:])
    names, pairs = [], 0
    for number, line in enumerate(lines[1:], 1):
        if re.fullmatch("pair [-.a-z]{%d} [-.a-z]{%d}" % (size, size), line):
            pairs += 1
            if pairs > 4:
                return number
            continue
        found = re.fullmatch("([a-z][a-z0-9]{0,7}) ([-.a-z]{%d})" % size, line)
        if not found or found[2] == "-" * size or found[1] in names or len(names) == 7 or pairs > 0:
            return number
        names.append(found[1])
    return None


class BoxNotesTest(unittest.TestCase):
    def test_ordinary(self):
        self.assertEqual(format_box(BOX), TEXT)
        self.assertEqual(parse_box(TEXT), BOX)
        self.assertEqual(parse_box(text=format_box(box=BOX)).pairs, BOX.pairs)
        self.assertEqual(format_box(Box(STOCK, ())), TEXT.partition("\npair ..")[0])
        self.assertEqual(parse_box("stock 2\npair ab"), Box(Stock(2, [("pair", "ab")]), ()))
        self.assertEqual(parse_box("stock 2\npair ab ab"), Box(Stock(2, ()), [("ab", "ab")]))
        self.assertEqual(parse_box("stock 30"), Box(Stock(30, ()), ()))

    def test_7_stamps_and_8(self):
        lines = ["stock 1"] + [f"n{k} a" for k in range(7)]
        self.assertEqual(len(parse_box("\n".join(lines)).stock), 7)
        self.assertEqual(len(parse_box("\n".join(lines + ["pair a b"] * 4))), 4)
        for more in ["n7 a", "", "pair a", "junk"]:
            self.assertEqual(fault(parse_box, "\n".join(lines + [more])), (BadNote, 8))
            self.assertEqual(fault(parse_box, "\n".join(lines + [more, "pair a b"])), (BadNote, 8))

    def test_4_pairs_and_5(self):
        lines = ["stock 1", "x a"] + ["pair a -"] * 4
        self.assertEqual(len(parse_box("\n".join(lines))), 4)
        for more in ["pair a -", "", "junk", "y a"]:
            self.assertEqual(fault(parse_box, "\n".join(lines + [more])), (BadNote, 6))

    def test_a_stamp_behind_a_pair(self):
        self.assertEqual(fault(parse_box, "stock 2\nx a-\npair ab ab\ny -b"), (BadNote, 3))
        self.assertEqual(fault(parse_box, "stock 2\npair ab ab\npair ab\npair ab ab"), (BadNote, 2))
        # A line before it that cannot stand there comes first.
        self.assertEqual(fault(parse_box, "stock 2\nx a-\nx a-\npair ab ab\ny -b"), (BadNote, 2))

    def test_one_fault_each(self):
        for text, line in [
            ("", 0), ("\n", 0), ("pair ab ab", 0), ("stock 31", 0), ("stock 02", 0), (TEXT + "\n", 6),
            (TEXT + "\nx a-", 6), ("stock 2\n", 1), ("stock 2\npair", 1), ("stock 2\npair ", 1), ("stock 2\npair a", 1),
            ("stock 2\npair --", 1),
            ("stock 2\npair ab abc", 1), ("stock 2\npair abc ab", 1), ("stock 2\npair ab  ab", 1),
            ("stock 2\npair  ab", 1),
            ("stock 2\npair ab ", 1), ("stock 2\npair ab ab ", 1), ("stock 2\n pair ab ab", 1),
            ("stock 2\npair ab ab ab", 1),
            ("stock 2\nPair ab ab", 1), ("stock 2\npair ab aB", 1), ("stock 2\npairs ab ab", 1),
            ("stock 2\nx ab ab", 1),
            ("stock 2\npair ab ab\n", 2), ("stock 2\npair ab ab\n\npair ab ab", 2), ("stock 2\npair ab\npair ab", 2),
            ("stock 2\npair ab\npair ab ab\npair", 3), ("stock 2\npair ab\npair ab ab\nlook ab", 3),
            ("pair a b\nstock 1", 0),
        ]:
            self.assertEqual(first_bad_line(text), line, repr(text))
            self.assertEqual(fault(parse_box, text), (BadNote, line), repr(text))

    def test_exactly_what_format_returns(self):
        accepted = 0
        for seed in range(1500):
            random = Random(seed)
            stock = random_stock(seed, 7, random.randrange(1, 3))
            box = Box(stock, [(random_layer(random, stock.size, "-ab"), random_layer(random, stock.size, "-ab"))
                              for _ in range(random.randrange(5))])
            text = format_box(box)
            self.assertEqual(parse_box(text), box)
            lines = text.split("\n")
            for _ in range(random.randrange(2)):
                lines.insert(random.randrange(1, len(lines) + 1), random.choice(lines + ["pair", "pair a", "pair a b"]))
            text = list("\n".join(lines))
            for _ in range(random.randrange(2)):
                at = random.randrange(len(text) + 1)
                text[at:at + random.randrange(2)] = random.choice(["", " ", "\n", "a", "-", "x"])
            text = "".join(text)
            line = first_bad_line(text)
            if line is None:
                accepted += 1
                self.assertEqual(format_box(parse_box(text)), text)
            else:
                self.assertEqual(fault(parse_box, text), (BadNote, line), repr(text))
        self.assertGreater(accepted, 400)
