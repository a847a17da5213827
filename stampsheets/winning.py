"""How to come to a good sheet, whatever the foe does."""

from stampsheets.duels import all_answers, duel_sheets, is_good, made_by_foe
from stampsheets.havens import first_row_into


def sure_steps(duel, sheets, won):
    """Return those of the sheets that are good, or that are won whatever the foe does then."""
    return {
        sheet: True for sheet in sheets
        if is_good(duel, sheet) or all([made in won for made in made_by_foe(duel, (sheet,))])
    }


def next_rows(duel, sheets, answers, won):
    """Return those of the sheets that are won in one more turn, with the row that does it."""
    inside = sure_steps(duel, sheets, won)
    rows = {sheet: first_row_into(answers[sheet], inside) for sheet in sheets if sheet not in won}
    return {sheet: row for sheet, row in rows.items() if row is not None}


def won_sheets(duel, start):
    """Return the sheets that are won, with the numbers of turns and the first rows."""
    sheets = duel_sheets(duel, start)
    answers = all_answers(duel, sheets)
    won = {sheet: (0, ()) for sheet in sheets if is_good(duel, sheet)}
    turns = 1
    rows = next_rows(duel, sheets, answers, won)
    while rows:
        won.update({sheet: (turns, row) for sheet, row in rows.items()})
        turns = turns + 1
        rows = next_rows(duel, sheets, answers, won)
    return tuple([(sheet,) + won[sheet] for sheet in sheets if sheet in won])


def is_trap(duel, sheets):
    """Return True if the set of these sheets is a trap, otherwise False."""
    answers = all_answers(duel, sheets)
    inside = {sheet: True for sheet in sheets}
    # Pressing nothing is an answer, too, so the sheets themselves are among the ends.
    ends = list({after: True for sheet in inside for _, after in answers[sheet]})
    if any([is_good(duel, after) for after in ends]):
        return False
    return all([any([made in inside for made in made_by_foe(duel, (after,))]) for after in ends])
