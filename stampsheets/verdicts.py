"""Verdicts: a claim judged over all rows that lead from one layer to another."""

from stampsheets.marks import mark_holds
from stampsheets.standings import first_standing, standing_ends, standing_moves, standing_ways
from stampsheets.tupling import as_tuples
from stampsheets.ways import first_row

WORDS_SHOWN = ("none", "sure", "never")


class Verdict:
    """What holds of all rows, with rows or a table that show it."""

    def __init__(self, word, keeping, breaking, table):
        self.word = word
        self.keeping = keeping
        self.breaking = breaking
        self.table = table


def joint_claim(claim, supposed):
    """Return the claim whose marks tell of both claims."""
    return claim if supposed is None else supposed & claim


def judged(claim, supposed, mark):
    """Return whether the claim holds for a joint mark, or None if what is supposed does not."""
    if supposed is None:
        return mark_holds(claim, mark)
    middle = len(supposed.atoms)
    if not mark_holds(supposed, mark[:middle]):
        return None
    return mark_holds(claim, mark[middle:])


def word_for(keeping, breaking):
    """Return the word of a verdict with these rows."""
    if keeping is None and breaking is None:
        return "none"
    if breaking is None:
        return "sure"
    if keeping is None:
        return "never"
    return "open"


def verdict(start, seen, claim, *, supposed=None):
    """Judge the claim over all rows that lead from `start` to `seen`."""
    joint = joint_claim(claim, supposed)
    levels, moves = standing_ways(seen, joint)
    ends = standing_ends(start, list(moves))
    kept = {end: True for end in ends if judged(claim, supposed, end[1]) is True}
    broken = {end: True for end in ends if judged(claim, supposed, end[1]) is False}
    keeping = first_row(joint.stock.names, levels, moves, kept)
    breaking = first_row(joint.stock.names, levels, moves, broken)
    word = word_for(keeping, breaking)
    standings = [standing for level in levels for standing in level]
    return Verdict(word, keeping, breaking, () if word == "open" else tuple(standings))


def end_is_shown(word, held):
    """Return True if an end that is judged so does not speak against the word."""
    if held is None:
        return True
    if word == "none":
        return False
    return held if word == "sure" else not held


def is_verdict_table(start, seen, claim, word, table, *, supposed=None):
    """Return True if the table shows the word, otherwise False."""
    joint = joint_claim(claim, supposed)
    standings = {standing: True for standing in as_tuples(table)}
    if word not in WORDS_SHOWN or first_standing(seen, joint) not in standings:
        return False
    for standing in standings:
        if not all([after in standings for name, after in standing_moves(joint, standing)]):
            return False
    ends = standing_ends(start, list(standings))
    return all([end_is_shown(word, judged(claim, supposed, end[1])) for end in ends])
