"""Havens: sheets from which the sheet can be kept good, whatever the foe does."""

from stampsheets.duels import all_answers, duel_sheets, foe_deeds, is_good, made_by_foe


def first_row_into(answers, inside):
    """Return the row of the first answer that leads to one of these sheets, or None."""
    for row, after in answers:
        if after in inside:
            return row
    return None


def kept_among(duel, sheets, answers):
    """Return the good ones of the sheets from which, whatever the foe does, an answer leads into them."""
    inside = {sheet: True for sheet in sheets}
    back = {made: first_row_into(answers[made], inside) is not None for made in made_by_foe(duel, sheets)}
    return [
        sheet for sheet in sheets
        if is_good(duel, sheet) and all([back[made] for _, made in foe_deeds(duel, sheet)])
    ]


def is_haven(duel, sheets):
    """Return True if the set of these sheets is a haven, otherwise False."""
    answers = all_answers(duel, made_by_foe(duel, sheets))
    return len(kept_among(duel, sheets, answers)) == len(sheets)


def safe_sheets(duel, start):
    """Return the greatest haven of sheets that can be made of the sheet in the duel."""
    sheets = duel_sheets(duel, start)
    answers = all_answers(duel, sheets)
    kept = kept_among(duel, sheets, answers)
    while len(kept) < len(sheets):
        sheets = kept
        kept = kept_among(duel, sheets, answers)
    return tuple(sheets)


def answer_plan(duel, start):
    """Return for each safe sheet, and each thing that the foe can do, the first row that keeps it safe."""
    safe = safe_sheets(duel, start)
    answers = all_answers(duel, made_by_foe(duel, safe))
    inside = {sheet: True for sheet in safe}
    return tuple([
        (sheet, name, first_row_into(answers[made], inside))
        for sheet in safe for name, made in foe_deeds(duel, sheet)
    ])
