"""How long a sheet can be kept good that cannot be kept good for ever."""

from stampsheets.duels import all_answers, duel_sheets, foe_deeds, is_good, made_by_foe
from stampsheets.tupling import as_tuples


def all_below(answers, ranks, rank):
    """Return True if every answer leads to a sheet with a rank that is less than this one."""
    for _, after in answers:
        if after not in ranks or ranks[after] >= rank:
            return False
    return True


def first_blow(duel, sheet, answers, ranks, rank):
    """Return the first thing the foe can do behind which no answer avoids lesser ranks, or None."""
    for name, made in foe_deeds(duel, sheet):
        if all_below(answers[made], ranks, rank):
            return name
    return None


def next_blows(duel, sheets, answers, ranks, rank):
    """Return those of the sheets without a rank that get this one, with what the foe does."""
    blows = {}
    for sheet in sheets:
        if sheet not in ranks:
            name = first_blow(duel, sheet, answers, ranks, rank)
            if name is not None:
                blows[sheet] = name
    return blows


def loss_table(duel, start):
    """Return the sheets that are not safe, with their ranks and what the foe does."""
    sheets = duel_sheets(duel, start)
    answers = all_answers(duel, sheets)
    ranks = {sheet: 0 for sheet in sheets if not is_good(duel, sheet)}
    names = {sheet: None for sheet in ranks}
    rank = 1
    blows = next_blows(duel, sheets, answers, ranks, rank)
    while blows:
        ranks.update({sheet: rank for sheet in blows})
        names.update(blows)
        rank = rank + 1
        blows = next_blows(duel, sheets, answers, ranks, rank)
    return tuple([(sheet, ranks[sheet], names[sheet]) for sheet in sheets if sheet in ranks])


def least_ranks(triples):
    """Return the least rank with which each sheet stands in a table of triples."""
    ranks = {}
    for sheet, rank, _ in triples:
        ranks[sheet] = min(rank, ranks.get(sheet, rank))
    return ranks


def is_loss_table(duel, table):
    """Return True if each triple of the table shows how its sheet is lost, otherwise False."""
    triples = as_tuples(table)
    ranks = least_ranks(triples)
    answers = all_answers(duel, made_by_foe(duel, list(ranks)))
    for sheet, rank, name in triples:
        made_by = dict(foe_deeds(duel, sheet))
        if rank < 0 or (rank == 0 and is_good(duel, sheet)):
            return False
        if rank > 0 and (name not in made_by or not all_below(answers[made_by[name]], ranks, rank)):
            return False
    return True
