"""Whether one claim implies another one, and whether two claims are the same."""

from stampsheets.layers import empty_layer
from stampsheets.marks import mark_holds
from stampsheets.standings import standing_ways
from stampsheets.verdicts import verdict
from stampsheets.ways import first_row


def implies(start, seen, one, two):
    """Return True if `two` holds for every row that leads there and for which `one` holds."""
    return verdict(start, seen, two, supposed=one).breaking is None


def same_claims(one, two):
    """Return None if the claims hold for the same rows, otherwise the first row that parts them."""
    both = one & two
    # Every row leads from the empty layer to itself.
    levels, moves = standing_ways(empty_layer(both.stock.size), both)
    middle = len(one.atoms)
    parted = {
        standing: True for standing in moves
        if mark_holds(one, standing[1][:middle]) != mark_holds(two, standing[1][middle:])
    }
    return first_row(both.stock.names, levels, moves, parted)
