"""Small claims for tests."""

from functools import reduce
from random import Random

from stampsheets.claims import Claim


def all_atoms(stock):
    """Return all atoms of a stock."""
    names = stock.names
    atoms = [("used", name, least) for name in names for least in (1, 2, 3)]
    atoms += [("rest", name, m, r) for name in names for m in (2, 3, 4) for r in range(m)]
    atoms += [(word, a, b) for word in ("over", "ahead", "next") for a in names for b in names
              if a != b or word == "next"]
    atoms += [(word, name) for word in ("ends", "begins") for name in names]
    atoms += [("top", cell, name) for cell in range(stock.size) for name in names + (None,)]
    return atoms


def random_claim(seed, stock, many):
    """Return a claim with so many atoms that depends on the seed alone."""
    random = Random(seed * 11 + 3)
    parts = [Claim.of(stock, random.choice(all_atoms(stock))) for _ in range(many)]
    parts = [~part if random.random() < 0.3 else part for part in parts]
    return reduce(lambda one, two: one & two if random.random() < 0.5 else ~(one | two), parts)
