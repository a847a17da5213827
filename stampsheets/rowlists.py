"""The rows that lead from one layer to another and for which a claim holds."""

from stampsheets.marks import mark_holds
from stampsheets.standings import first_standing, standing_ends, standing_ways
from stampsheets.ways import counts_after, first_row, states_before


def ends_of_claim(start, claim, moves):
    """Return the ends for `start` for which the claim holds, as a dict of True."""
    return {end: True for end in standing_ends(start, list(moves)) if mark_holds(claim, end[1])}


def rows_with(start, seen, claim, *, longest):
    """Yield all rows with at most `longest` presses that lead there and keep the claim."""
    _, moves = standing_ways(seen, claim)
    ends = ends_of_claim(start, claim, moves)
    names = claim.stock.names
    row = ()
    # Item number k has the standings that exactly k moves reach.
    reached = [[first_standing(seen, claim)]]
    for _ in range(longest + 1):
        group = {end: True for end in reached[-1] if end in ends}
        if group:
            yield from rows_back(names, moves, reached, group, row)
        reached = reached + [standings_after(moves, reached[-1])]


def standings_after(moves, standings):
    """Return the standings, each once, that one more move reaches."""
    return list({after: True for standing in standings for after in moves[standing].values()})


def rows_back(names, moves, reached, group, row):
    """Yield all rows that begin with this row, which leads into the group, and go on to the end.

    The group is a part of the last item of `reached`, so none of its ways ends in vain.
    """
    if len(reached) == 1:
        yield row
        return
    nearer = reached[:-1]
    for name in names:
        before = states_before(nearer[-1], moves, name, group)
        if before:
            longer = row + (name,)
            yield from rows_back(names, moves, nearer, before, longer)


def row_count(start, seen, claim, length):
    """Return the number of rows with exactly so many presses that lead there and keep the claim."""
    _, moves = standing_ways(seen, claim)
    ends = ends_of_claim(start, claim, moves)
    counts = {first_standing(seen, claim): 1}
    for _ in range(length):
        counts = counts_after(moves, counts)
    return sum([counts[end] for end in ends if end in counts])


def least_row(start, seen, claim):
    """Return the first row, in the order of rows, that leads there and keeps the claim, or None."""
    levels, moves = standing_ways(seen, claim)
    return first_row(claim.stock.names, levels, moves, ends_of_claim(start, claim, moves))
