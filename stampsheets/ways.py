"""Ways from a first state by named moves, as they are read from a row's last press to its first.

A state is a layer, or a tuple that begins with one. `moves` maps each state that
can be reached to its moves: a dict from the name that is read to the state behind it.
"""


def spread(first, moves_of):
    """Return the states that can be reached, as a list of levels, and the moves of each.

    Level number k holds the states that k moves reach and fewer do not, in order.
    """
    moves = {}
    levels = []
    known = {first: True}
    level = [first]
    while level:
        levels.append(level)
        found = []
        for state in level:
            moves[state] = dict(moves_of(state))
            for after in moves[state].values():
                if after not in known:
                    known[after] = True
                    found.append(after)
        # Layers compare as strings in their order, and tuples with them do likewise.
        level = sorted(found)
    return levels, moves


def first_row(names, levels, moves, ends):
    """Return the first row, in the order of rows, that leads from one of the ends, or None."""
    for steps, level in enumerate(levels):
        group = {state: True for state in level if state in ends}
        if group:
            return row_from(names, levels[:steps], moves, group)
    return None


def row_from(names, levels, moves, group):
    """Return the first row that leads from a state of the group down through all levels."""
    row = []
    for level in reversed(levels):
        for name in names:
            before = states_before(level, moves, name, group)
            if before:
                row.append(name)
                group = before
                break
    return tuple(row)


def states_before(states, moves, name, group):
    """Return those of the states from which the name leads into the group, as a dict of True."""
    return {state: True for state in states if moves[state].get(name) in group}


def counts_after(moves, counts):
    """Return the number of ways to each state after one more move."""
    later = {}
    for state, count in counts.items():
        for after in moves[state].values():
            later[after] = later.get(after, 0) + count
    return later
