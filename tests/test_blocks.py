"""Point 91: trials and batches."""

import unittest

from stampsheets.blocks import Batch, Trial
from stampsheets.desks import Desk
from stampsheets.errors import NothingToUndo, UnknownName
from stampsheets.stocks import Stock
from tests.test_desks import state

STOCK = Stock(2, [("x", "a-"), ("y", "-b")])


class Other(Exception):
    """An error that is none of the program's."""


class BlocksTest(unittest.TestCase):
    def setUp(self):
        self.desk = Desk(STOCK, "..")
        self.desk.press("x")
        self.before = state(self.desk)

    def test_a_trial_takes_everything_back(self):
        with Trial(self.desk) as trial:
            self.assertIs(trial.desk, self.desk)
            self.desk.press("y")
            self.assertEqual(self.desk.now, "ab")
        self.assertEqual(state(self.desk), self.before)

    def test_a_trial_that_lays_a_sheet_or_takes_back_what_was_there(self):
        with Trial(desk=self.desk):
            self.desk.undo()
            self.desk.now = "qq"
            self.desk.press("y")
            self.assertEqual(state(self.desk), ("qq", ("y",), "qb"))
        self.assertEqual(state(self.desk), self.before)

    def test_a_trial_that_an_error_ends(self):
        for error in (Other, NothingToUndo, KeyboardInterrupt):
            with self.assertRaises(error):
                with Trial(self.desk):
                    self.desk.now = "qq"
                    raise error()
            self.assertEqual(state(self.desk), self.before)

    def test_a_batch_stands(self):
        batch = Batch(self.desk)
        self.assertIsNone(batch.kept)
        with batch as given:
            self.assertIs(given, batch)
            self.assertIs(given.desk, self.desk)
            self.assertIsNone(batch.kept)
            self.desk.press("y")
            self.assertIsNone(batch.kept)
        self.assertIs(batch.kept, True)
        self.assertEqual(state(self.desk), ("..", ("x", "y"), "ab"))

    def test_a_batch_that_lays_a_sheet(self):
        with Batch(desk=self.desk) as batch:
            self.desk.now = "qq"
        self.assertIs(batch.kept, True)
        self.assertEqual(state(self.desk), ("qq", (), "qq"))

    def test_a_batch_that_an_error_ends(self):
        for error in (Other, NothingToUndo, KeyboardInterrupt):
            batch = Batch(self.desk)
            with self.assertRaises(error):
                with batch:
                    self.desk.undo()
                    self.desk.now = "qq"
                    self.desk.press("y")
                    raise error()
            self.assertIs(batch.kept, False)
            self.assertEqual(state(self.desk), self.before)

    def test_errors_of_the_desk_pass_on(self):
        with self.assertRaises(UnknownName) as caught:
            with Batch(self.desk):
                self.desk.press("y")
                self.desk.press("q")
        self.assertEqual(caught.exception.name, "q")
        self.assertEqual(state(self.desk), self.before)

    def test_an_error_that_is_caught_within(self):
        with Batch(self.desk) as batch:
            self.desk.press("y")
            with self.assertRaises(UnknownName):
                self.desk.press("q")
        self.assertIs(batch.kept, True)
        self.assertEqual(self.desk.presses, ("x", "y"))

    def test_other_ways_to_end(self):
        def leave(block):
            with block:
                self.desk.press("y")
                return len(self.desk)

        self.assertEqual(leave(Trial(self.desk)), 2)
        self.assertEqual(state(self.desk), self.before)
        batch = Batch(self.desk)
        self.assertEqual(leave(batch), 2)
        self.assertIs(batch.kept, True)
        self.assertEqual(self.desk.presses, ("x", "y"))
        for _ in range(3):
            with Trial(self.desk):
                self.desk.press("y")
                break
        self.assertEqual(self.desk.presses, ("x", "y"))

    def test_it_begins_when_the_with_is_entered(self):
        trial, batch = Trial(self.desk), Batch(self.desk)
        self.desk.press("y")
        with trial:
            self.desk.now = "qq"
        self.assertEqual(self.desk.presses, ("x", "y"))
        with self.assertRaises(Other):
            with batch:
                self.desk.now = "qq"
                raise Other()
        self.assertEqual(self.desk.presses, ("x", "y"))

    def test_nested_blocks(self):
        with Batch(self.desk) as outer:
            self.desk.press("y")
            with Trial(self.desk):
                self.desk.press("y")
                with Batch(self.desk) as inner:
                    self.desk.now = "zz"
                self.assertIs(inner.kept, True)
                self.assertEqual(self.desk.now, "zz")
            self.assertEqual(self.desk.presses, ("x", "y"))
            with self.assertRaises(Other):
                with Batch(self.desk) as failed:
                    self.desk.undo()
                    raise Other()
            self.assertIs(failed.kept, False)
            self.assertIsNone(outer.kept)
            self.assertEqual(self.desk.presses, ("x", "y"))
        self.assertIs(outer.kept, True)
        self.assertEqual(self.desk.presses, ("x", "y"))
        with Trial(self.desk):
            with Trial(self.desk):
                self.desk.back_to(0)
            self.assertEqual(self.desk.presses, ("x", "y"))
            with Batch(self.desk):
                self.desk.back_to(0)
            self.assertEqual(self.desk.presses, ())
        self.assertEqual(self.desk.presses, ("x", "y"))

    def test_an_error_through_nested_batches(self):
        outer, inner = Batch(self.desk), Batch(self.desk)
        with self.assertRaises(Other):
            with outer:
                self.desk.press("y")
                with inner:
                    self.desk.press("y")
                    raise Other()
        self.assertEqual((outer.kept, inner.kept), (False, False))
        self.assertEqual(state(self.desk), self.before)

    def test_blocks_of_two_desks(self):
        other = Desk(STOCK, "zz")
        with Trial(self.desk), Batch(other) as batch:
            self.desk.press("y")
            other.press("y")
        self.assertEqual(state(self.desk), self.before)
        self.assertEqual((batch.kept, other.now), (True, "zb"))
