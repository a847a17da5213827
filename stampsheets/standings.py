"""Standings: what is left of a layer, together with the mark of a claim."""

from stampsheets.freeing import peels_of
from stampsheets.layers import agree
from stampsheets.marks import first_mark, next_mark
from stampsheets.ways import spread


def standing_moves(claim, standing):
    """Return the pairs of each name that lies on top and the standing behind it."""
    left, mark = standing
    return tuple([
        (name, (after, next_mark(claim, mark, name)))
        for name, after in peels_of(claim.stock, left)
    ])


def first_standing(seen, claim):
    """Return the standing before anything is read."""
    return (seen, first_mark(claim))


def standing_ways(seen, claim):
    """Return the levels of the standings that can be reached, and the moves of each."""
    return spread(first_standing(seen, claim), lambda standing: standing_moves(claim, standing))


def standing_ends(start, standings):
    """Return those of the standings that are ends for `start`, in order."""
    return [standing for standing in standings if agree(standing[0], start)]


def reached_standings(seen, claim):
    """Return all standings that can be reached, those that fewer moves reach first."""
    levels, _ = standing_ways(seen, claim)
    return tuple([standing for level in levels for standing in level])
