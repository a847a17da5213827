"""How likely a claim is for one who only reads the sheet and knows the number of presses."""

from stampsheets.chances import drawn_weights
from stampsheets.marks import mark_holds
from stampsheets.ratios import ZERO, divided, ratio
from stampsheets.standings import first_standing, standing_ends, standing_ways
from stampsheets.ways import weights_after


def claim_chances(chances, start, seen, claim, n):
    """Return the chance that n presses lead there and the claim holds, and that they lead there."""
    whole, weights = drawn_weights(claim.stock, chances)
    every = {name: weights.get(name, 0) for name in claim.stock.names}
    _, moves = standing_ways(seen, claim)
    amounts = {first_standing(seen, claim): 1}
    bottom = 1
    for _ in range(n):
        amounts = weights_after(moves, every, amounts)
        bottom = bottom * whole
    ends = standing_ends(start, list(amounts))
    held = sum([amounts[end] for end in ends if mark_holds(claim, end[1])])
    return (ratio(held, bottom), ratio(sum([amounts[end] for end in ends]), bottom))


def claim_share(chances, start, seen, claim, n):
    """Return how likely the claim is among the rows of n presses that lead there, or None."""
    held, led = claim_chances(chances, start, seen, claim, n)
    return None if led == ZERO else divided(held, led)
