"""Points 24 and 25: histories of a trail, and the marks on the way."""

import unittest

from stampsheets.layers import filled
from stampsheets.sources import trail_sources
from stampsheets.stocks import Stock
from stampsheets.trailing import possible_marks, sure_marks, trail_history
from stampsheets.trails import Trail, keeps
from tests.plain import MARKS, can_end, divides, layers_of, moments_from, random_pairs, rows_up_to, steps_after
from tests.trailcases import random_steps

STOCK = Stock(2, [("x", "a-"), ("y", "-b"), ("w", "a-")])


class HistoryTest(unittest.TestCase):
    def test_ordinary(self):
        trail = Trail(STOCK, [("look", "c-"), ("rows", ("x", "y", "w")), ("look", "ab")])
        self.assertEqual(trail_history(trail), ("c.", ("x", "y")))
        trail = Trail(STOCK, [("look", "c-"), ("rows", ("y", "w")), ("press", ("x", "w")), ("look", "ab")])
        self.assertEqual(trail_history(trail=trail), ("c.", ("y", "x")))
        trail = Trail(STOCK, [("rows", ("x",)), ("look", "c-"), ("press", ("x", "y", "w")), ("look", "a-")])
        self.assertEqual(trail_history(trail), ("c.", ("x",)))

    def test_edges(self):
        self.assertEqual(trail_history(Trail(STOCK, ())), ("..", ()))
        self.assertEqual(trail_history(Trail(STOCK, [("look", "-q")])), (".q", ()))
        self.assertEqual(trail_history(Trail(STOCK, [("press", ("x", "y"))] * 12)), ("..", ("x",) * 12))
        self.assertIsNone(trail_history(Trail(STOCK, [("press", ())])))
        self.assertIsNone(trail_history(Trail(STOCK, [("look", "a-"), ("look", "c-")])))
        self.assertIsNone(trail_history(Trail(STOCK, [("rows", ("x",)), ("look", "q-"), ("rows", ()), ("look", "a-")])))
        self.assertEqual(trail_history(Trail(Stock(1, ()), [("rows", ())])), (".", ()))

    def test_many_sheets(self):
        names = [f"n{k}" for k in range(8)]
        stock = Stock(8, [(name, "-" * k + "a" + "-" * (7 - k)) for k, name in enumerate(names)])
        trail = Trail(stock, [("look", "b" * 8), ("rows", names), ("look", "a" * 8), ("press", names)])
        self.assertEqual(trail_history(trail), ("b" * 8, tuple(names) + ("n0",)))

    def test_first_of_the_sources(self):
        trail = Trail(STOCK, [("press", ("x", "y")), ("look", "ab")])
        self.assertEqual(trail_sources(trail)[0], ("-b", "a-"))
        self.assertEqual(trail_history(trail), (".b", ("x",)))

    def test_a_row_in_two_ways(self):
        # The one press can belong to the first stretch or to the second one.
        stock = Stock(1, [("x", "a"), ("y", "b")])
        trail = Trail(stock, [("rows", ("x",)), ("press", ("y", "x")), ("rows", ("y",)), ("look", "a")])
        self.assertEqual(trail_history(trail), (".", ("x",)))
        trail = Trail(stock, [("rows", ("y",)), ("look", "b"), ("rows", ("x", "y")), ("press", ("x",)), ("look", "a")])
        self.assertEqual(trail_history(trail), (".", ("y", "x")))

    def test_against_all_rows(self):
        histories = 0
        for seed in range(200):
            pairs = random_pairs(seed, 2, 3)
            steps = random_steps(seed, 2, "xyz")
            trail = Trail(Stock(2, pairs), steps)
            found = trail_history(trail)
            if found is None:
                self.assertFalse([s for s in layers_of(2, "ab.z") if can_end(pairs, steps, 0, s)])
                continue
            histories += 1
            start, row = found
            self.assertIsInstance(row, tuple)
            self.assertEqual(start, filled(trail_sources(trail)[0][0]))
            self.assertIs(keeps(trail, start, row), True)
            short = [each for each in rows_up_to("xyz", 5) if divides(pairs, tuple(steps), start, each)]
            self.assertEqual(row, short[0])
        self.assertGreater(histories, 60)


def arrivals(pairs, steps, starts):
    """Return the moments that stand ahead of the stretch of their own step."""
    moments = moments_from(pairs, steps, starts)
    later = {after for moment in moments for after in steps_after(pairs, steps, *moment) if after[0] > moment[0]}
    return later | set(starts)


class MarksTest(unittest.TestCase):
    def setUp(self):
        self.trail = Trail(STOCK, [("look", "c-"), ("rows", ("x", "y")), ("look", "-b"), ("press", ("x",))])

    def test_possible(self):
        self.assertEqual(possible_marks(self.trail, 0, 0), ("c",))
        self.assertEqual(possible_marks(self.trail, 0, 1), tuple(MARKS))
        self.assertEqual(possible_marks(self.trail, 2, 0), ("a", "c"))
        self.assertEqual(possible_marks(self.trail, 2, 1), ("b",))
        self.assertEqual(possible_marks(self.trail, 3, 0), ("a", "c"))
        self.assertEqual(possible_marks(cell=0, index=4, trail=self.trail), ("a",))

    def test_sure(self):
        self.assertEqual([sure_marks(self.trail, k) for k in range(5)], ["c-", "c-", "-b", "-b", "ab"])
        self.assertEqual(sure_marks(index=0, trail=self.trail), "c-")

    def test_edges(self):
        empty = Trail(STOCK, ())
        self.assertEqual(possible_marks(empty, 0, 1), tuple(MARKS))
        self.assertEqual(sure_marks(empty, 0), "--")
        never = Trail(STOCK, [("look", "a-"), ("press", ())])
        for index in range(3):
            self.assertEqual(possible_marks(never, index, 0), ())
            self.assertIsNone(sure_marks(never, index))
        eleven = Trail(STOCK, [("press", ("x", "y"))] * 10 + [("look", ".q")])
        self.assertIsNone(sure_marks(eleven, 11))
        eleven = Trail(STOCK, [("press", ("x",))] * 10 + [("look", "-q")])
        self.assertEqual(sure_marks(eleven, 0), "-q")
        self.assertEqual(sure_marks(eleven, 1), "aq")
        self.assertEqual(sure_marks(eleven, 11), "aq")
        self.assertEqual(possible_marks(eleven, 0, 0), tuple(MARKS))

    def test_a_cell_that_has_all_marks_in_stamps(self):
        stock = Stock(1, [("m" + str(k), mark) for k, mark in enumerate(MARKS[:24])])
        trail = Trail(stock, [("press", stock.names), ("look", "-")])
        self.assertEqual(possible_marks(trail, 1, 0), tuple(MARKS[:24]))
        self.assertEqual(possible_marks(trail, 0, 0), tuple(MARKS))

    def test_a_cell_of_which_every_mark_is_told(self):
        stock = Stock(1, [("m" + str(k), mark) for k, mark in enumerate(MARKS[:24])])
        looks = [("look", mark) for mark in MARKS[24:]]
        self.assertEqual(possible_marks(Trail(stock, looks), 1, 0), ())
        self.assertIsNone(sure_marks(Trail(stock, looks), 1))

    def test_against_all_histories(self):
        for seed in range(60):
            pairs = random_pairs(seed, 2, 3)
            steps = random_steps(seed, 2, "xyz")
            trail = Trail(Stock(2, pairs), steps)
            # Only the dot, a and b occur, so z speaks for all marks from c to z.
            starts = [(0, sheet) for sheet in layers_of(2, ".abz")]
            lasting = [moment for moment in arrivals(pairs, steps, starts) if can_end(pairs, steps, *moment)]
            for index in range(len(steps) + 1):
                sure = ""
                for cell in (0, 1):
                    marks = {sheet[cell] for place, sheet in lasting if place == index}
                    wanted = [mark for mark in MARKS if mark in marks or (mark > "b" and "z" in marks)]
                    self.assertEqual(possible_marks(trail, index, cell), tuple(wanted))
                    sure += wanted[0] if len(wanted) == 1 else "-"
                self.assertEqual(sure_marks(trail, index), sure if lasting else None)
