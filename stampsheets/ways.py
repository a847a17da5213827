"""Ways from a first state by named moves, as they are read from a row's last press to its first.

A state is a layer, or a tuple that begins with one. `moves` maps each state that
can be reached to its moves: a dict from the name that is read to the state behind it.
"""


def spread(first, moves_of):
    """Return the states that can be reached, as a list of levels, and the moves of each.

    Level number k holds the states that k moves reach and fewer do not, in order.
    """
    moves = {}
    levels = []
    known = {first: True}
    level = [first]
    while level:
        levels.append(level)
        found = []
        for state in level:
            moves[state] = dict(moves_of(state))
            for after in moves[state].values():
                if after not in known:
                    known[after] = True
                    found.append(after)
        # Layers compare as strings in their order, and tuples with them do likewise.
        level = sorted(found)
    return levels, moves


def first_row(names, levels, moves, ends):
    """Return the first row, in the order of rows, that leads from one of the ends, or None."""
    for steps, level in enumerate(levels):
        group = {state: True for state in level if state in ends}
        if group:
            return row_from(names, levels[:steps], moves, group)
    return None


def row_from(names, levels, moves, group):
    """Return the first row that leads from a state of the group down through all levels."""
    row = []
    for level in reversed(levels):
        for name in names:
            before = states_before(level, moves, name, group)
            if before:
                row.append(name)
                group = before
                break
    return tuple(row)


def states_before(states, moves, name, group):
    """Return those of the states from which the name leads into the group, as a dict of True."""
    return {state: True for state in states if moves[state].get(name) in group}


def counts_after(moves, counts):
    """Return the number of ways to each state after one more move."""
    later = {}
    for state, count in counts.items():
        for after in moves[state].values():
            later[after] = later.get(after, 0) + count
    return later


def weights_after(moves, weights, amounts):
    """Return the amount at each state after one more move that multiplies it by the weight of its name."""
    later = {}
    for state, amount in amounts.items():
        for name, after in moves[state].items():
            later[after] = later.get(after, 0) + amount * weights[name]
    return later


def least_costs(first, moves, price_of):
    """Return for each state the least cost of moves that reach it, and the fewest of such moves."""
    least = {first: (0, 0)}
    fresh = [first]
    while fresh:
        better = {}
        for state in fresh:
            cost, steps = least[state]
            for name, after in moves[state].items():
                told = (cost + price_of[name], steps + 1)
                if after not in least or told < least[after]:
                    least[after] = told
                    better[after] = True
        fresh = list(better)
    return least


def cheapest_row(names, moves, price_of, least, ends):
    """Return the first row, in the order of rows, of the cheapest ones from one of the ends, or None."""
    if len(ends) == 0:
        return None
    cost, steps = min([least[end] for end in ends])
    group = {end: True for end in ends if least[end] == (cost, steps)}
    row = []
    while steps > 0:
        for name in names:
            earlier = (cost - price_of[name], steps - 1)
            before = states_before([state for state in least if least[state] == earlier], moves, name, group)
            if before:
                row.append(name)
                group = before
                cost, steps = earlier
                break
    return tuple(row)
