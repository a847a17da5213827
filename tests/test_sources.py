"""Points 22 and 23: the sources of a trail."""

import unittest

from stampsheets.sources import is_source_table, trail_sources
from stampsheets.stocks import Stock
from stampsheets.trails import Trail
from tests.plain import can_end, fits, layers_of, random_pairs
from tests.trailcases import random_steps

STOCK = Stock(2, [("x", "a-"), ("y", "-b"), ("z", "ab")])
STEPS = [("look", "-."), ("rows", ("x", "y")), ("look", "a-"), ("press", ("y", "z")), ("look", "ab")]


def plain_sources(pairs, steps, size):
    """Find the sources in the words of point 22, with sets of layers."""
    behind = {"-" * size}
    found = [behind]
    for kind, told in reversed(steps):
        layers = set()
        named = [(name, stamp) for name, stamp in pairs if name in told]
        for layer in behind:
            if kind == "look" and not clash(layer, told):
                layers.add("".join(a if a != "-" else b for a, b in zip(layer, told)))
            if kind == "press":
                layers |= {bare(layer, stamp) for name, stamp in named if not clash(layer, stamp)}
            if kind == "rows":
                layers.add(all_bare(layer, [stamp for name, stamp in named]))
        behind = {one for one in layers if not any(two != one and fits(one, two) for two in layers)}
        found.append(behind)
    return tuple(tuple(sorted(layers)) for layers in reversed(found))


def clash(one, two):
    return any(a != b and "-" not in (a, b) for a, b in zip(one, two))


def bare(layer, stamp):
    return "".join(a if b == "-" else "-" for a, b in zip(layer, stamp))


def all_bare(layer, stamps):
    for _ in range(len(layer)):
        for stamp in stamps:
            if not clash(layer, stamp):
                layer = bare(layer, stamp)
    return layer


class SourcesTest(unittest.TestCase):
    def test_ordinary(self):
        trail = Trail(STOCK, STEPS)
        self.assertEqual(trail_sources(trail), (("-.",), ("--",), ("a-",), ("--",), ("ab",), ("--",)))
        trail = Trail(STOCK, [("press", ("x", "y")), ("look", "ab")])
        self.assertEqual(trail_sources(trail), (("-b", "a-"), ("ab",), ("--",)))

    def test_only_the_least_remain(self):
        trail = Trail(STOCK, [("press", ("x", "y", "z")), ("look", "ab")])
        self.assertEqual(trail_sources(trail), (("--",), ("ab",), ("--",)))

    def test_edges(self):
        self.assertEqual(trail_sources(Trail(STOCK, ())), (("--",),))
        self.assertEqual(trail_sources(trail=Trail(STOCK, [("rows", ())])), (("--",), ("--",)))
        self.assertEqual(trail_sources(Trail(STOCK, [("press", ())])), ((), ("--",)))
        self.assertEqual(trail_sources(Trail(STOCK, [("rows", ("x",)), ("press", ())])), ((), (), ("--",)))
        self.assertEqual(trail_sources(Trail(STOCK, [("look", "a-"), ("look", "c-")])), ((), ("c-",), ("--",)))
        self.assertEqual(trail_sources(Trail(STOCK, [("look", "qq")])), (("qq",), ("--",)))
        twelve = Trail(STOCK, [("press", ("x",))] * 11 + [("look", "a-")])
        self.assertEqual(trail_sources(twelve), (("--",),) * 11 + (("a-",), ("--",)))
        self.assertEqual(trail_sources(Trail(Stock(1, ()), [("look", "-")])), (("-",), ("-",)))

    def test_small_trails(self):
        for seed in range(150):
            pairs = random_pairs(seed, 3, 3)
            steps = random_steps(seed, 3, "xyz")
            trail = Trail(Stock(3, pairs), steps)
            found = trail_sources(trail)
            self.assertEqual(found, plain_sources(pairs, steps, 3))
            for sheet in layers_of(3, "ab.z"):
                wanted = can_end(pairs, steps, 0, sheet)
                self.assertIs(any(fits(sheet, source) for source in found[0]), wanted)


class SourceTableTest(unittest.TestCase):
    def test_own_tables(self):
        for seed in range(60):
            trail = Trail(Stock(3, random_pairs(seed, 3, 3)), random_steps(seed, 3, "xyz"))
            table = trail_sources(trail)
            self.assertIs(is_source_table(trail, table), True)
            more = [list(layers) + ["zzz"] + list(layers)[::-1] for layers in table]
            self.assertIs(is_source_table(table=more, trail=trail), plainly_holds(trail, more))
            for at, layers in enumerate(table):
                for layer in layers:
                    fewer = [[each for each in row if (k, each) != (at, layer)] for k, row in enumerate(table)]
                    self.assertIs(is_source_table(trail, fewer), plainly_holds(trail, fewer))

    def test_random_tables(self):
        held = 0
        for seed in range(300):
            trail = Trail(Stock(2, random_pairs(seed, 2, 2)), random_steps(seed, 2, "xy")[:3])
            table = random_table(seed, len(trail) + 1)
            held += plainly_holds(trail, table)
            self.assertIs(is_source_table(trail, table), plainly_holds(trail, table))
        self.assertGreater(held, 10)

    def test_edges(self):
        self.assertIs(is_source_table(Trail(STOCK, ()), [["--"]]), True)
        self.assertIs(is_source_table(Trail(STOCK, ()), [["a-", "--", "--"]]), True)
        self.assertIs(is_source_table(Trail(STOCK, ()), [["a-"]]), False)
        self.assertIs(is_source_table(Trail(STOCK, ()), ((),)), False)
        self.assertIs(is_source_table(Trail(STOCK, [("press", ())]), ((), ("--",))), True)
        look = Trail(STOCK, [("look", "a-")])
        self.assertIs(is_source_table(look, [["--"], ["--"]]), True)
        self.assertIs(is_source_table(look, [["ab"], ["--"]]), False)
        self.assertIs(is_source_table(look, [["a-"], ["--", "c-"]]), True)
        rows = Trail(STOCK, [("rows", ("x",)), ("look", "a-")])
        self.assertIs(is_source_table(rows, [["a-"], ["a-"], ["--"]]), False)
        self.assertIs(is_source_table(rows, [["a-", "--"], ["a-"], ["--"]]), True)
        self.assertIs(is_source_table(rows, [["--"], ["a-"], ["--"]]), True)
        self.assertIs(is_source_table(rows, [["-b"], ["a-"], ["--"]]), False)
        rows = Trail(STOCK, [("rows", ("x",)), ("look", "-b")])
        self.assertIs(is_source_table(rows, [["-b", "c-"], ["-b"], ["--"]]), True)
        self.assertIs(is_source_table(rows, [["-b", "a-"], ["-b"], ["--"]]), False)
        self.assertIs(is_source_table(rows, [["-b", "ab"], ["-b"], ["--"]]), True)
        press = Trail(STOCK, [("press", ("x", "y")), ("look", "ab")])
        self.assertIs(is_source_table(press, [["a-", "-b"], ["ab"], ["--"]]), True)
        self.assertIs(is_source_table(press, [["a-"], ["ab"], ["--"]]), False)


def plainly_holds(trail, table):
    """Say whether a table holds all starts, in the words of point 23."""
    if "-" * trail.stock.size not in table[-1]:
        return False
    for k, (kind, told) in enumerate(trail.steps):
        needed = []
        for layer in table[k + 1]:
            if kind == "look" and not clash(layer, told):
                needed.append("".join(a if a != "-" else b for a, b in zip(layer, told)))
            if kind == "rows":
                needed.append(layer)
        for layer in table[k] if kind == "rows" else table[k + 1] if kind == "press" else []:
            needed += [bare(layer, trail.stock.stamp(n)) for n in told if not clash(layer, trail.stock.stamp(n))]
        if not all(any(fits(layer, one) for one in table[k]) for layer in needed):
            return False
    return True


def random_table(seed, many):
    from random import Random
    random = Random(seed)
    layers = ["--", "a-", "-b", "ab", ".-", "-."]
    return [random.sample(layers, random.randrange(1, 5)) for _ in range(many - 1)] + [["--", "a-"]]
