"""Point 95: claims as text."""

import unittest
from functools import reduce
from random import Random

from stampsheets.claimnotes import format_claim, parse_claim
from stampsheets.claims import Claim
from stampsheets.errors import BadClaimText
from stampsheets.stocks import Stock
from tests.claimcases import all_atoms
from tests.notecases import fault

STOCK = Stock(12, [("x", "a" * 12), ("y", "b" * 12), ("used", "-" * 11 + "c"), ("bare", "-" * 11 + "d")])
X = Claim.of(STOCK, ("ends", "x"))
Y = Claim.of(STOCK, ("used", "y", 2))


def depth(tree):
    return 1 if tree[0] == "atom" else 1 + max(depth(part) for part in tree[1:])


def all_texts(stock):
    """Return the text of each atom, in the words of point 95."""
    texts = {}
    for atom in all_atoms(stock):
        texts[" ".join(str(item) for item in atom)] = atom
        if atom[0] == "top" and atom[2] is None:
            del texts[" ".join(str(item) for item in atom)]
            texts[f"bare {atom[1]}"] = atom
    return texts


class ClaimNotesTest(unittest.TestCase):
    def test_atoms(self):
        for text, atom in [
            ("used x 2", ("used", "x", 2)), ("rest x 3 1", ("rest", "x", 3, 1)), ("over x y", ("over", "x", "y")),
            ("ahead x y", ("ahead", "x", "y")), ("next x y", ("next", "x", "y")), ("next x x", ("next", "x", "x")),
            ("ends x", ("ends", "x")), ("begins x", ("begins", "x")), ("top 3 x", ("top", 3, "x")),
            ("bare 3", ("top", 3, None)),
            ("top 11 bare", ("top", 11, "bare")), ("bare 10", ("top", 10, None)), ("top 0 used", ("top", 0, "used")),
            ("used used 1", ("used", "used", 1)), ("over bare used", ("over", "bare", "used")),
            ("rest used 2 0", ("rest", "used", 2, 0)),
        ]:
            claim = Claim.of(STOCK, atom)
            self.assertEqual(format_claim(claim), text)
            self.assertEqual(parse_claim(STOCK, text), claim)

    def test_all_atoms(self):
        for text, atom in all_texts(STOCK).items():
            claim = Claim.of(STOCK, atom)
            self.assertEqual(format_claim(claim=claim), text)
            self.assertEqual(parse_claim(text=text, stock=STOCK), claim)

    def test_trees(self):
        for claim, text in [
            (X & Y, "(ends x & used y 2)"), (X | Y, "(ends x | used y 2)"), (~X, "~ends x"), (~~X, "~~ends x"),
            (~(X & Y), "~(ends x & used y 2)"), (~X & ~Y, "(~ends x & ~used y 2)"),
            ((X & Y) | X, "((ends x & used y 2) | ends x)"), (X & (Y | X), "(ends x & (used y 2 | ends x))"),
        ]:
            self.assertEqual(format_claim(claim), text)
            self.assertEqual(parse_claim(STOCK, text), claim)
            self.assertEqual(parse_claim(STOCK, text).tree, claim.tree)

    def test_8_atoms_and_9(self):
        for fold in (lambda claims: reduce(lambda a, b: a & b, claims), self.balanced):
            eight = fold([X] * 8)
            self.assertEqual(parse_claim(STOCK, format_claim(eight)), eight)
        nine = self.balanced([X, Y, X] * 3)
        self.assertLessEqual(depth(nine.tree), 8)
        self.assertEqual(fault(parse_claim, STOCK, format_claim(nine)), (BadClaimText,))

    def balanced(self, claims):
        while len(claims) > 1:
            claims = [reduce(lambda a, b: a | b, claims[k:k + 2]) for k in range(0, len(claims), 2)]
        return claims[0]

    def test_8_deep_and_9(self):
        claim = X
        for _ in range(7):
            claim = ~claim
        self.assertEqual(parse_claim(STOCK, "~" * 7 + "ends x"), claim)
        self.assertEqual(fault(parse_claim, STOCK, "~" * 8 + "ends x"), (BadClaimText,))
        deep = "(" * 6 + "ends x" + " & ends x)" * 6
        self.assertEqual(depth(parse_claim(STOCK, "~" + deep).tree), 8)
        self.assertEqual(fault(parse_claim, STOCK, "~~" + deep), (BadClaimText,))
        self.assertEqual(fault(parse_claim, STOCK, "~" * 5000 + "ends x"), (BadClaimText,))
        self.assertEqual(fault(parse_claim, STOCK, "(" * 5000), (BadClaimText,))

    def test_one_fault_each(self):
        for text in [
            "", " ", "x", "ends", "ends ", "ends  x", " ends x", "ends x ", "ends q", "ends x y", "Ends x", "ends X",
            "ends 1",
            "used x", "used x 0", "used x 4", "used x 02", "used x +2", "used x -1", "used x 2 ", "used x two",
            "used 2 x", "used x 1 1", "used q 2", "rest x 1 0", "rest x 5 1", "rest x 3 3", "rest x 3", "rest x 3 -1",
            "rest x 03 1",
            "rest x 3 01", "over x x", "ahead y y", "over x", "over x q", "next x", "next x y x", "begins", "top x 3",
            "top 12 x",
            "top -1 x", "top 03 x", "top 3", "top 3 None", "top 3 q", "bare 12", "bare -1", "bare 03", "bare x",
            "bare", "bare 3 x",
            "(ends x)", "(ends x & ends y", "ends x & ends y", "(ends x & ends y))", "((ends x & ends y)",
            "((ends x & ends y))",
            "(ends x&ends y)", "(ends x &  ends y)", "(ends x  & ends y)", "( ends x & ends y)", "(ends x & ends y )",
            "(ends x & ends y & ends x)", "(ends x and ends y)", "(ends x && ends y)", "(ends x & )", "( & ends y)",
            "()", "(", ")",
            "~", "~ ends x", "~(ends x)", "ends x~", "ends ~x", "ends x\n", "\nends x", "ends\nx", "(ends x\n& ends y)",
            "(ends x | ends q)", "(ends x | used y 4)", "ends x)", "ends x & ", "not ends x", "(ends x , ends y)",
            "atom ends x", "(ends x | ends y)(ends x | ends y)", "ends(x)", "used x 2000000000000",
        ]:
            self.assertEqual(fault(parse_claim, STOCK, text), (BadClaimText,), repr(text))

    def test_written_and_read_back(self):
        for seed in range(300):
            claim = random_tree(Random(seed), STOCK, 8)
            text = format_claim(claim)
            self.assertEqual(parse_claim(STOCK, text), claim)
            self.assertEqual(parse_claim(STOCK, text).stock, STOCK)

    def test_exactly_what_format_returns(self):
        atoms = list(all_texts(STOCK))
        accepted = refused = 0
        for seed in range(3000):
            random = Random(seed)
            text = list(format_claim(random_tree(random, STOCK, 4)))
            for _ in range(random.randrange(1, 3)):
                at = random.randrange(len(text) + 1)
                text[at:at + random.randrange(3)] = random.choice(["", " ", "~", "(", ")", "1", "x", "3", " & ", "|"])
            text = "".join(text)
            if plainly_told(text, atoms):
                accepted += 1
                self.assertEqual(format_claim(parse_claim(STOCK, text)), text)
            else:
                refused += 1
                self.assertEqual(fault(parse_claim, STOCK, text), (BadClaimText,), repr(text))
        self.assertGreater(accepted, 100)
        self.assertGreater(refused, 1000)

    def test_stocks(self):
        # A text is read for a stock: a name or a cell that another stock has is of no use.
        self.assertEqual(fault(parse_claim, Stock(3, [("x", "aaa")]), "top 3 x"), (BadClaimText,))
        self.assertEqual(fault(parse_claim, Stock(3, ()), "ends x"), (BadClaimText,))
        self.assertEqual(parse_claim(Stock(3, ()), "bare 2"), Claim.of(Stock(3, ()), ("top", 2, None)))


def plainly_told(text, atoms):
    """Say whether the text can be taken together from inside to outside, with few atoms."""
    for atom in sorted(atoms, key=len, reverse=True):
        text = text.replace(atom, "A") if text.count(atom) else text
    if any(sign not in "A~()&| " for sign in text) or text.count("A") > 8:
        return False
    before = None
    while before != text:
        before = text
        for sign in ("A & A", "A | A"):
            text = text.replace("(" + sign + ")", "A")
        text = text.replace("~A", "A")
    return text == "A"


def random_tree(random, stock, most):
    """Return a claim with at most so many atoms and at most 8 deep."""
    atom = random.choice(all_atoms(stock))
    claims = [Claim.of(stock, random.choice(all_atoms(stock))) for _ in range(random.randrange(1, most + 1))]
    claims[0] = Claim.of(stock, atom)
    while len(claims) > 1:
        at = random.randrange(len(claims) - 1)
        one, two = claims[at:at + 2]
        joint = random.choice([one & two, one | two])
        claims[at:at + 2] = [~joint if random.random() < 0.3 and depth(joint.tree) < 7 else joint]
    return claims[0] if depth(claims[0].tree) <= 8 else Claim.of(stock, atom)
