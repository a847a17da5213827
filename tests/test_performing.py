"""Point 92: deeds."""

import unittest
from random import Random

from stampsheets.blocks import Batch, Trial
from stampsheets.desks import Desk
from stampsheets.errors import (
    BadCount, BadDeed, BadSheet, CannotMake, DeskFull, Mismatch, NothingToUndo, StampError, UnknownName,
)
from stampsheets.performing import perform
from stampsheets.stocks import Stock
from tests.test_desks import state

STOCK = Stock(3, [("x", "aa-"), ("y", "-b-"), ("z", "--c")])


class PerformTest(unittest.TestCase):
    def setUp(self):
        self.desk = Desk(STOCK, "...")

    def fails(self, deeds, kind, field=None, value=None):
        with self.assertRaises(kind) as caught:
            perform(self.desk, deeds)
        if field is not None:
            self.assertEqual(getattr(caught.exception, field), value)

    def test_every_form(self):
        self.assertEqual(perform(self.desk, [
            ("press", "x"), ["press", "y"], ("show",), ("undo",), ("make", "ab-"), ("check", "ab-"), ("back", 1),
            ("show",), ("sheet", "qqq"), ["show"], ("trial", [("press", "z"), ("show",)]), ("batch", (("press", "z"),)),
            ("attempt", [("press", "x"), ["undo"]]), ("show",),
        ]), (
            "aa.", "ab.", ("ab.", ("x", "y")), "y", ("y",), True, "aa.", ("aa.", ("x",)),
            None, ("qqq", ()), ("qqc", ("qqc", ("z",))), ("qqc",),
            (True, ("aac", "x")), ("qqc", ("z",)),
        ))
        self.assertEqual(state(self.desk), ("qqq", ("z",), "qqc"))

    def test_no_deeds(self):
        self.assertEqual(perform(self.desk, ()), ())
        self.assertEqual(perform(deeds=[], desk=self.desk), ())
        self.assertEqual(perform(self.desk, [("trial", []), ("batch", ()), ("attempt", [])]), ((), (), (True, ())))

    def test_lists_are_made_tuples_and_nothing_else_is_changed(self):
        deeds = [["attempt", [["press", "x"], ["trial", [["undo"]]]]]]
        self.assertEqual(perform(self.desk, deeds), ((True, ("aa.", ("x",))),))
        self.assertEqual(deeds, [["attempt", [["press", "x"], ["trial", [["undo"]]]]]])

    def test_errors_pass_on_and_what_was_done_stands(self):
        self.fails([("press", "x"), ("press", "q"), ("press", "y")], UnknownName, "name", "q")
        self.assertEqual(self.desk.presses, ("x",))
        self.fails([("press", "y"), ("back", 3)], BadCount, "count", 3)
        self.fails([("back", -1)], BadCount, "count", -1)
        self.assertEqual(self.desk.presses, ("x", "y"))
        self.fails([("press", "z"), ("make", "qbc")], CannotMake, "cells", (0,))
        self.assertEqual(self.desk.presses, ("x", "y", "z"))
        self.fails([("sheet", "zzz"), ("sheet", "-zz")], BadSheet, "sheet", "-zz")
        self.assertEqual(state(self.desk), ("zzz", (), "zzz"))
        self.fails([("undo",)], NothingToUndo)
        self.fails([("press", "x")] * 61, DeskFull)
        self.assertEqual(len(self.desk), 60)

    def test_check(self):
        self.assertEqual(perform(self.desk, [("press", "y"), ("check", "-b."), ("check", "---"), ("check", ".b.")]),
                         (".b.", True, True, True))
        self.fails([("check", "-ab")], Mismatch, "cell", 1)
        self.fails([("check", "-bc")], Mismatch, "cell", 2)
        self.fails([("check", "abc")], Mismatch, "cell", 0)
        self.assertEqual(self.desk.presses, ("y",))

    def test_blocks_take_back(self):
        perform(self.desk, [("press", "x")])
        self.fails([("press", "y"), ("trial", [("press", "z"), ("press", "q")])], UnknownName, "name", "q")
        self.assertEqual(self.desk.presses, ("x", "y"))
        self.fails([("batch", [("press", "z"), ("batch", [("sheet", "zzz"), ("undo",)])])], NothingToUndo)
        self.assertEqual(self.desk.presses, ("x", "y"))
        self.assertEqual(perform(self.desk, [("batch", [("press", "z"), ("trial", [("back", 0), ("show",)])])]),
                         (("abc", ("...", ("...", ()))),))
        self.assertEqual(self.desk.presses, ("x", "y", "z"))

    def test_attempts(self):
        perform(self.desk, [("press", "x")])
        self.assertEqual(perform(self.desk, [
            ("attempt", [("press", "y"), ("check", "-a-"), ("press", "z")]), ("show",),
            ("attempt", [("press", "y"), ("check", "-b-")]), ("show",),
        ]), ((False, ()), ("aa.", ("x",)), (True, ("ab.", True)), ("ab.", ("x", "y"))))

    def test_an_attempt_that_fails_within_an_attempt(self):
        self.assertEqual(perform(self.desk, [
            ("attempt", [("press", "x"), ("attempt", [("sheet", "zzz"), ("undo",)]), ("show",)]), ("show",),
        ]), ((True, ("aa.", (False, ()), ("aa.", ("x",)))), ("aa.", ("x",))))
        self.assertEqual(perform(self.desk, [
            ("attempt", [("press", "y"), ("attempt", [("press", "z")]), ("press", "q")]), ("show",),
        ]), ((False, ()), ("aa.", ("x",))))
        self.assertEqual(perform(self.desk, [
            ("batch", [("press", "y"), ("attempt", [("trial", [("batch", [("back", 9)])])])]), ("show",),
        ]), (("ab.", (False, ())), ("ab.", ("x", "y"))))

    def test_all_errors_of_the_program_are_held_by_an_attempt(self):
        for deed in [("press", "q"), ("undo",), ("back", 1), ("make", "q--"), ("sheet", "no"), ("check", "a--")]:
            self.assertEqual(perform(self.desk, [("attempt", [deed])]), ((False, ()),))
        perform(self.desk, [("press", "z")] * 60)
        self.assertEqual(perform(self.desk, [("attempt", [("press", "z")]), ("attempt", [("make", "a--")])]),
                         ((False, ()), (False, ())))

    def test_deeds_of_no_form(self):
        for deed in [
            (), ("jump",), ("",), ("press",), ("press", "x", "y"), ("undo", "x"), ("undo", 1), ("show", ()), ("back",),
            ("back", 1, 2), ("make",), ("make", "a--", "a--"), ("sheet",), ("sheet", "...", "..."), ("check",),
            ("check", "...", 1), ("trial",), ("trial", (), ()), ("batch",), ("attempt",), ("attempt", (), ()),
            ("Press", "x"), ("make ", "a--"), ("jump", (("press", "x"),)),
        ]:
            for at_this_depth in (lambda d: d, lambda d: ("trial", (d,)), lambda d: ("batch", (("attempt", (d,)),))):
                self.fails([("press", "x"), at_this_depth(deed), ("hop",)], BadDeed, "deed", deed)
                # Even behind a deed that would raise an error.
                self.fails([("undo",), at_this_depth(deed)], BadDeed, "deed", deed)
        self.assertEqual(state(self.desk), ("...", (), "..."))

    def test_the_first_bad_deed(self):
        self.fails([("attempt", [("trial", [("one",)]), ("two",)]), ("three",)], BadDeed, "deed", ("one",))
        self.fails([("attempt", [("trial", []), ("two",)]), ("three",)], BadDeed, "deed", ("two",))
        self.fails([("attempt", [("one",)], "x"), ("two",)], BadDeed, "deed", ("attempt", (("one",),), "x"))
        self.fails([["jump", [["press", ["x"]]], [1]]], BadDeed, "deed", ("jump", (("press", ("x",)),), (1,)))

    def test_sixty_deeds_and_four_blocks(self):
        deeds = [("press", "x")] * 56
        for word in ("trial", "batch", "attempt", "trial"):
            deeds = [(word, deeds)]
        kept, results = perform(self.desk, deeds)[0][0]
        self.assertIs(kept, True)
        self.assertEqual([len(inner) for batch in results for inner in batch], [56])
        self.assertEqual(len(self.desk), 0)

    def test_against_deeds_one_by_one(self):
        failed = 0
        for seed in range(400):
            random = Random(seed)
            deeds = random_deeds(random, 3)
            one, two = Desk(STOCK, "..."), Desk(STOCK, "...")
            told = outcome(perform, one, deeds)
            failed += told[0] is not None
            self.assertEqual(told, outcome(one_by_one, two, deeds))
            self.assertEqual(state(one), state(two))
        self.assertGreater(failed, 50)
        self.assertLess(failed, 350)


def outcome(function, desk, deeds):
    try:
        return (None, function(desk, deeds))
    except StampError as error:
        return (type(error), vars(error))


def one_by_one(desk, deeds):
    """Do the deeds by the methods of the desk and by blocks."""
    results = []
    for deed in deeds:
        word, told = deed[0], deed[-1]
        if word == "check":
            cells = [cell for cell in range(3) if told[cell] not in ("-", desk.now[cell])]
            if cells:
                raise Mismatch(cells[0])
            results.append(True)
        elif word == "sheet":
            desk.now = told
            results.append(None)
        elif word == "trial":
            with Trial(desk):
                results.append(one_by_one(desk, told))
        elif word == "batch":
            with Batch(desk):
                results.append(one_by_one(desk, told))
        elif word == "attempt":
            first, row = desk.first_sheet, desk.presses
            try:
                results.append((True, one_by_one(desk, told)))
            except StampError:
                desk.now = first
                for name in row:
                    desk.press(name)
                results.append((False, ()))
        else:
            results.append({
                "press": lambda: desk.press(told), "undo": desk.undo, "back": lambda: desk.back_to(told),
                "make": lambda: desk.make(told), "show": lambda: (desk.now, desk.presses),
            }[word]())
    return tuple(results)


def random_deeds(random, depth):
    deeds = []
    for _ in range(random.randrange(0, 6)):
        kind = random.randrange(12 if depth else 9)
        if kind >= 9:
            word = ("trial", "batch", "attempt")[kind - 9]
            deeds.append((word, random_deeds(random, depth - 1)))
        else:
            deeds.append([
                ("press", random.choice("xyz")), ("press", random.choice("xyz")), ("press", random.choice("xyzzyxxyq")),
                ("undo",), ("back", random.randrange(3)), ("make", random.choice(["ab-", "--c", "a-.", "---"])),
                ("sheet", random.choice(["zzz", "...", "no"])), ("show",),
                ("check", random.choice(["---", "-b-", "a--"])),
            ][kind])
    return deeds
