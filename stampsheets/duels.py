"""Duels: a foe presses stamps, too, and each press is answered."""

from stampsheets.errors import BadWish
from stampsheets.layers import is_layer, layer_order, within
from stampsheets.nets import presses_of
from stampsheets.stocks import check_sizes
from stampsheets.tupling import as_tuples

PASSING = ""


def check_wishes(size, wishes):
    """Raise the error of the first wish that is not a layer of this size."""
    for index, wish in enumerate(wishes):
        if not is_layer(wish) or len(wish) != size:
            raise BadWish(index)


class Duel:
    """My stock, that of the foe, the wishes, and how many presses an answer may have."""

    def __init__(self, mine, foes, wishes, most):
        check_sizes(mine, foes)
        kept = as_tuples(wishes)
        check_wishes(mine.size, kept)
        self.mine = mine
        self.foes = foes
        self.wishes = kept
        self.most = most

    def __eq__(self, other):
        return (
            isinstance(other, Duel) and self.mine == other.mine and self.foes == other.foes
            and self.wishes == other.wishes and self.most == other.most
        )


def is_good(duel, sheet):
    """Return True if the sheet fits one of the wishes."""
    return any([within(wish, sheet) for wish in duel.wishes])


def foe_deeds(duel, sheet):
    """Return the pairs of each thing that the foe can do, passing first, and the sheet that it makes."""
    return ((PASSING, sheet),) + presses_of(duel.foes, sheet)


def made_by_foe(duel, sheets):
    """Return the sheets that the foe can make of these, by a press or by passing, each once."""
    return list({made: True for sheet in sheets for _, made in foe_deeds(duel, sheet)})


def moves_among(pairs, sheets):
    """Return the presses of each of the sheets, and of all sheets that they make by and by."""
    moves = {}
    waiting = list(sheets)
    while waiting:
        sheet = waiting.pop()
        if sheet not in moves:
            moves[sheet] = presses_of(pairs, sheet)
            waiting.extend([after for name, after in moves[sheet]])
    return moves


def longer_answers(moves, answers, known):
    """Return the answers with one more press that make a sheet which is not known, and note it."""
    longer = []
    for row, sheet in answers:
        for name, after in moves[sheet]:
            if after not in known:
                known[after] = True
                longer.append((row + (name,), after))
    return longer


def answers_along(moves, sheet, most):
    """Return the first row to each sheet that at most so many moves make of the sheet."""
    known = {sheet: True}
    level = [((), sheet)]
    answers = level
    steps = 0
    # The first row to a sheet without its last press is the first row to the sheet
    # before it, so each level comes in the order of rows.
    while level and (most is None or steps < most):
        level = longer_answers(moves, level, known)
        answers = answers + level
        steps = steps + 1
    return tuple(answers)


def all_answers(duel, sheets):
    """Return the answers to each of the sheets, as a dict."""
    moves = moves_among(duel.mine.stamps, sheets)
    answers = {}
    for sheet in sheets:
        if sheet not in answers:
            answers[sheet] = answers_along(moves, sheet, duel.most)
    return answers


def answers_to(duel, sheet):
    """Return the pairs of a row of mine and what it makes of the sheet, each sheet once."""
    return all_answers(duel, (sheet,))[sheet]


def duel_sheets(duel, start):
    """Return all sheets that rows of both stocks make of the sheet, in the order of layers."""
    moves = moves_among(duel.mine.stamps + duel.foes.stamps, (start,))
    return tuple(sorted(list(moves), key=layer_order))
