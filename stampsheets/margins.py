"""How much more it costs if a claim does not hold, or if a stamp may not be pressed."""

from stampsheets.marks import mark_holds
from stampsheets.prices import cost_between, prices_by_name
from stampsheets.standings import first_standing, standing_ends, standing_ways
from stampsheets.stocks import checked_names
from stampsheets.ways import least_costs


def cost_margin(prices, start, seen, claim):
    """Return the least cost of a row for which the claim holds, and of one for which it does not."""
    price_of = prices_by_name(claim.stock, prices)
    _, moves = standing_ways(seen, claim)
    least = least_costs(first_standing(seen, claim), moves, price_of)
    ends = standing_ends(start, list(moves))
    held = [least[end][0] for end in ends if mark_holds(claim, end[1])]
    broken = [least[end][0] for end in ends if not mark_holds(claim, end[1])]
    return (min(held, default=None), min(broken, default=None))


def sure_within(prices, start, seen, claim, excess):
    """Return True if the claim holds for all rows that cost at most so much more than the least cost."""
    held, broken = cost_margin(prices, start, seen, claim)
    if broken is None:
        return True
    return held is not None and broken > held + excess


def stamp_worth(stock, prices, start, seen, name):
    """Return how much less a row costs at least if the stamp is free than if it is barred, or None."""
    price_of = prices_by_name(stock, prices)
    checked_names(stock, (name,))
    barred = cost_between(stock.without((name,)), price_of, start, seen)
    if barred is None:
        return None
    price_of[name] = 0
    return barred - cost_between(stock, price_of, start, seen)
