"""Point 94: trails as text."""

import re
import unittest
from random import Random

from stampsheets.errors import BadNote
from stampsheets.stocks import Stock
from stampsheets.trailnotes import format_trail, parse_trail
from stampsheets.trails import Trail
from tests.notecases import fault, random_stock
from tests.plain import random_layer

STOCK = Stock(2, [("x", "a-"), ("rows", "-b"), ("look", "ab"), ("press", "..")])
STEPS = [("look", "a-"), ("rows", ()), ("press", ("x", "press")), ("rows", ("rows", "look")), ("press", ()),
         ("look", "--")]
TEXT = "look a-\nrows\npress x press\nrows rows look\npress\nlook --"


def first_bad_line(stock, text):
    """Return the number of the first line that cannot stand there, in the words of point 94."""
    for number, line in enumerate(text.split("\n") if text else []):
        word, *told = line.split(" ")
        if number == 12:
            return number
        if word == "look":
            good = re.fullmatch("look [-.a-z]{%d}" % stock.size, line)
        else:
            places = [stock.names.index(name) if name in stock.names else -1 for name in told]
            good = word in ("rows", "press") and -1 not in places and places == sorted(set(places))
        if not good:
            return number
    return None


class TrailNotesTest(unittest.TestCase):
    def test_ordinary(self):
        trail = Trail(STOCK, STEPS)
        self.assertEqual(format_trail(trail), TEXT)
        self.assertEqual(parse_trail(STOCK, TEXT), trail)
        self.assertEqual(parse_trail(text=format_trail(trail=trail), stock=STOCK).steps, tuple(STEPS))
        # Names that are passed in another order and twice are written in the order of the stock.
        self.assertEqual(format_trail(Trail(STOCK, [("rows", ("look", "x", "look"))])), "rows x look")

    def test_no_steps(self):
        self.assertEqual(format_trail(Trail(STOCK, ())), "")
        self.assertEqual(parse_trail(STOCK, ""), Trail(STOCK, ()))
        self.assertEqual(parse_trail(Stock(1, ()), "rows\npress\nlook -"),
                         Trail(Stock(1, ()), [("rows", ()), ("press", ()), ("look", "-")]))

    def test_12_steps_and_13(self):
        lines = ["look ab"] * 12
        self.assertEqual(len(parse_trail(STOCK, "\n".join(lines))), 12)
        for more in ["look ab", "", "junk"]:
            self.assertEqual(fault(parse_trail, STOCK, "\n".join(lines + [more])), (BadNote, 12))

    def test_one_fault_each(self):
        for text, line in [
            ("\n", 0), (" ", 0), ("look", 0), ("look ", 0), ("look a", 0), ("look abc", 0), ("look  ab", 0),
            ("look ab ", 0),
            (" look ab", 0), ("look a b", 0), ("look aB", 0), ("look x x", 0), ("Look ab", 0), ("rows ", 0),
            ("rows  x", 0),
            ("rows x ", 0), ("rows x  press", 0), (" rows", 0), ("rows q", 0), ("rows x q", 0), ("rows x x", 0),
            ("rows rows x", 0), ("press look rows", 0), ("presses x", 0), ("press\tx", 0), ("ab", 0), ("stock 2", 0),
            ("rows\n", 1), ("rows\n\nrows", 1), (TEXT + "\n", 6), (TEXT + "\nlook x", 6), ("look ab\npress x,rows", 1),
            ("look ab\nrows X", 1), ("look ab\nrows x\nlook", 2),
        ]:
            self.assertEqual(first_bad_line(STOCK, text), line, repr(text))
            self.assertEqual(fault(parse_trail, STOCK, text), (BadNote, line), repr(text))

    def test_exactly_what_format_returns(self):
        accepted = 0
        for seed in range(1500):
            random = Random(seed)
            stock = random_stock(seed, 5)
            steps = []
            for _ in range(random.randrange(0, 5)):
                told = tuple(name for name in stock.names if random.random() < 0.5)
                steps.append(random.choice([("look", random_layer(random, stock.size, "-ab.")), ("rows", told),
                                            ("press", told)]))
            trail = Trail(stock, steps)
            text = format_trail(trail)
            self.assertEqual(parse_trail(stock, text), trail)
            text = list(text)
            for _ in range(random.randrange(3)):
                at = random.randrange(len(text) + 1)
                text[at:at + random.randrange(2)] = random.choice(["", " ", "\n", "a", "-", "x", " x", "s"])
            text = "".join(text)
            line = first_bad_line(stock, text)
            if line is None:
                accepted += 1
                self.assertEqual(format_trail(parse_trail(stock, text)), text)
            else:
                self.assertEqual(fault(parse_trail, stock, text), (BadNote, line), repr(text))
        self.assertGreater(accepted, 400)
