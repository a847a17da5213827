"""Point 93: stocks as text."""

import re
import unittest
from random import Random

from stampsheets.errors import BadNote
from stampsheets.stocknotes import format_stock, parse_stock
from stampsheets.stocks import Stock
from tests.notecases import fault, random_stock

STOCK = Stock(3, [("x", "a-."), ("stock", "--b"), ("long1234", "abc")])
TEXT = "stock 3\nx a-.\nstock --b\nlong1234 abc"


def first_bad_line(text, most=24):
    """Return the number of the first line that cannot stand there, in the words of point 93."""
    lines = text.split("\n")
    if not re.fullmatch("stock ([1-9]|[12][0-9]|30)", lines[0]):
        return 0
    size = int(lines[0][6:])
    names = []
    for number, line in enumerate(lines[1:], 1):
        found = re.fullmatch("([a-z][a-z0-9]{0,7}) ([-.a-z]{%d})" % size, line)
        if not found or found[2] == "-" * size or found[1] in names or number > most:
            return number
        names.append(found[1])
    return None


class StockNotesTest(unittest.TestCase):
    def test_ordinary(self):
        self.assertEqual(format_stock(STOCK), TEXT)
        self.assertEqual(parse_stock(text=TEXT), STOCK)
        self.assertEqual(format_stock(stock=Stock(30, ())), "stock 30")
        self.assertEqual(parse_stock("stock 1"), Stock(1, ()))

    def test_written_and_read_back(self):
        for seed in range(60):
            stock = random_stock(seed)
            self.assertEqual(parse_stock(format_stock(stock)), stock)

    def test_24_stamps_and_more(self):
        lines = ["stock 1"] + [f"n{k} a" for k in range(24)]
        self.assertEqual(len(parse_stock("\n".join(lines))), 24)
        for more in ["n24 a", "", "junk", "n0 a"]:
            self.assertEqual(fault(parse_stock, "\n".join(lines + [more])), (BadNote, 25))

    def test_one_fault_each(self):
        for text, line in [
            ("", 0), ("\n", 0), ("stock", 0), ("stock ", 0), ("stock 0", 0), ("stock 31", 0), ("stock 03", 0),
            ("stock 3 ", 0),
            (" stock 3", 0), ("stock  3", 0), ("Stock 3", 0), ("stock 3.", 0), ("stock -3", 0), ("stock +3", 0),
            ("x a-.", 0),
            ("stock three", 0), ("stock 3\n", 1), ("stock 3\n\nx a-.", 1), (TEXT + "\n", 4), (TEXT + "\n\n", 4),
            ("stock 3\nx a-", 1), ("stock 3\nx a-..", 1), ("stock 3\nx ---", 1), ("stock 3\nx  a-.", 1),
            ("stock 3\nx a-. ", 1),
            ("stock 3\n x a-.", 1), ("stock 3\nx", 1), ("stock 3\nx ", 1), ("stock 3\n a-.", 1), ("stock 3\nX a-.", 1),
            ("stock 3\nx A-.", 1), ("stock 3\nninechars a-.", 1), ("stock 3\n1x a-.", 1), ("stock 3\nx a-. y", 1),
            ("stock 3\nx a-.\nx a-.", 2), ("stock 3\nx a-.\ny abc\nx --b\n", 3), ("stock 3\nx a-.\nstock 3", 2),
            ("x a-.\nstock 3", 0), ("stock 30\nx " + "a" * 29, 1), ("stock 3\nx\ta-.", 1), ("stock 3\rx a-.", 0),
            ("stock 3\nx a-.,", 1), ("stock 3\nx-y a-.", 1), ("stock 3 \nx", 0), ("stock 3000000000000000000000", 0),
        ]:
            self.assertEqual(first_bad_line(text), line, repr(text))
            self.assertEqual(fault(parse_stock, text), (BadNote, line), repr(text))

    def test_exactly_what_format_returns(self):
        accepted = 0
        for seed in range(1500):
            random = Random(seed)
            text = list(format_stock(random_stock(seed, 3)))
            for _ in range(random.randrange(3)):
                at = random.randrange(len(text) + 1)
                text[at:at + random.randrange(2)] = random.choice(["", " ", "\n", "a", "-", "1", "x", "0"])
            text = "".join(text)
            line = first_bad_line(text)
            if line is None:
                accepted += 1
                self.assertEqual(format_stock(parse_stock(text)), text)
            else:
                self.assertEqual(fault(parse_stock, text), (BadNote, line), repr(text))
        self.assertGreater(accepted, 400)
