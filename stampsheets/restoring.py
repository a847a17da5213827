"""What can always be restored, and how many presses an answer needs."""

from stampsheets.duels import Duel
from stampsheets.fastness import fast_cells
from stampsheets.havens import safe_sheets
from stampsheets.layers import DASH
from stampsheets.stocks import check_sizes

NUMBERS_OF_PRESSES = (0, 1, 2, 3)


def weak_point(mine, foes, wish):
    """Return the first stamp of the foe that spoils the wish for ever, and where, or None."""
    check_sizes(mine, foes)
    cells = fast_cells(mine, wish)
    for name, stamp in foes:
        for cell in cells:
            if stamp[cell] != DASH and stamp[cell] != wish[cell]:
                return (name, cell)
    return None


def is_safe(duel, start):
    """Return True if the sheet is safe in the duel."""
    return start in safe_sheets(duel, start)


def least_most(mine, foes, wishes, start):
    """Return how many presses an answer must be allowed so that the sheet is safe, `"any"`, or None."""
    for most in NUMBERS_OF_PRESSES:
        if is_safe(Duel(mine, foes, wishes, most), start):
            return most
    if is_safe(Duel(mine, foes, wishes, None), start):
        return "any"
    return None
