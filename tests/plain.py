"""Plain searches that follow the words of the document, for comparison."""

from itertools import combinations, permutations, product
from random import Random

MARKS = ".abcdefghijklmnopqrstuvwxyz"


def random_layer(random, size, signs):
    return "".join(random.choice(signs) for _ in range(size))


def random_stamp(random, size, signs):
    while True:
        stamp = random_layer(random, size, signs)
        if stamp != "-" * size:
            return stamp


def random_pairs(seed, size, many, signs="--ab."):
    """Return the pairs of a small stock that depends on the seed alone."""
    random = Random(seed)
    return tuple((name, random_stamp(random, size, signs)) for name in "xyzuvw"[:many])


def rows_up_to(names, longest):
    """Return all rows with at most so many names, in the order of rows."""
    return [row for length in range(longest + 1) for row in product(names, repeat=length)]


def over(one, two):
    return "".join(a if b == "-" else b for a, b in zip(one, two))


def fits(sheet, layer):
    return all(b == "-" or a == b for a, b in zip(sheet, layer))


def press_row(pairs, layer, row):
    for name in row:
        layer = over(layer, dict(pairs)[name])
    return layer


def sheets_fitting(layer, signs):
    """Return the sheets that fit the layer and have only these signs at its dashes."""
    return ["".join(s) for s in product(*[signs if sign == "-" else sign for sign in layer])]


def layers_of(size, signs):
    return ["".join(s) for s in product(signs, repeat=size)]


def leads(pairs, start, seen, row, signs="ab.z"):
    """Try all sheets that fit `start`; `signs` has all marks in question and one other."""
    return any(fits(press_row(pairs, sheet, row), seen) for sheet in sheets_fitting(start, signs))


def leading_rows(pairs, start, seen, longest, signs="ab.z"):
    names = [name for name, stamp in pairs]
    return [row for row in rows_up_to(names, longest) if leads(pairs, start, seen, row, signs)]


def reachable(pairs, sheets):
    """Return all sheets that rows make of these sheets."""
    found = list(dict.fromkeys(sheets))
    known = set(found)
    for sheet in found:
        for name, stamp in pairs:
            after = over(sheet, stamp)
            if after not in known:
                known.add(after)
                found.append(after)
    return known


def can_make(pairs, start, seen, signs="ab.z"):
    return any(fits(sheet, seen) for sheet in reachable(pairs, sheets_fitting(start, signs)))


def in_order(names, sets):
    """Return sets of names as tuples in the order of the names, ordered like point 38 says."""
    place = {name: k for k, name in enumerate(names)}
    rows = [tuple(sorted(one, key=place.get)) for one in sets]
    return sorted(rows, key=lambda row: (len(row), [place[name] for name in row]))


def all_subsets(items):
    return [chosen for many in range(len(items) + 1) for chosen in combinations(items, many)]


def orders_that_lead(pairs, start, seen):
    names = [name for name, stamp in pairs]
    return [row for row in permutations(names) if leads(pairs, start, seen, row)]


def atom_true(pairs, atom, row):
    """Say whether an atom holds, in the words of point 28."""
    kind = atom[0]
    if kind == "used":
        return row.count(atom[1]) >= atom[2]
    if kind == "rest":
        return row.count(atom[1]) % atom[2] == atom[3]
    if kind == "over":
        places = [k for k, name in enumerate(row) if name == atom[1]]
        return bool(places) and atom[2] not in row[places[-1]:]
    if kind == "ahead":
        places = [k for k, name in enumerate(row) if name == atom[1]]
        return bool(places) and atom[2] not in row[:places[0]]
    if kind == "next":
        return (atom[1], atom[2]) in list(zip(row, row[1:]))
    if kind == "ends":
        return bool(row) and row[-1] == atom[1]
    if kind == "begins":
        return bool(row) and row[0] == atom[1]
    covering = [name for name in row if dict(pairs)[name][atom[1]] != "-"]
    if atom[2] is None:
        return not covering
    return bool(covering) and covering[-1] == atom[2]


def tree_true(pairs, tree, row):
    if tree[0] == "atom":
        return atom_true(pairs, tree[1], row)
    if tree[0] == "not":
        return not tree_true(pairs, tree[1], row)
    parts = [tree_true(pairs, part, row) for part in tree[1:]]
    return all(parts) if tree[0] == "and" else any(parts)


def divides(pairs, steps, sheet, row):
    """Try all ways to divide a row into the stretches of the steps."""
    if not steps:
        return row == ()
    kind, told = steps[0]
    if kind == "look":
        return fits(sheet, told) and divides(pairs, steps[1:], sheet, row)
    if kind == "press":
        return bool(row) and row[0] in told and divides(
            pairs, steps[1:], press_row(pairs, sheet, row[:1]), row[1:])
    return divides(pairs, steps[1:], sheet, row) or (
        bool(row) and row[0] in told
        and divides(pairs, steps, press_row(pairs, sheet, row[:1]), row[1:]))


def steps_after(pairs, steps, place, sheet):
    """Return the moments (place, sheet) that follow one of them directly."""
    if place == len(steps):
        return []
    kind, told = steps[place]
    if kind == "look":
        return [(place + 1, sheet)] if fits(sheet, told) else []
    pressed = [over(sheet, stamp) for name, stamp in pairs if name in told]
    if kind == "press":
        return [(place + 1, after) for after in pressed]
    return [(place + 1, sheet)] + [(place, after) for after in pressed]


def moments_from(pairs, steps, moments):
    """Return all moments that can follow some of these, and these."""
    found = list(dict.fromkeys(moments))
    known = set(found)
    for place, sheet in found:
        for after in steps_after(pairs, steps, place, sheet):
            if after not in known:
                known.add(after)
                found.append(after)
    return known


def can_end(pairs, steps, place, sheet):
    return any(at == len(steps) for at, _ in moments_from(pairs, steps, [(place, sheet)]))


def plain_nets(pairs, size):
    """Return the net stamps of all rows, that of the empty row among them."""
    return reachable(pairs, ["-" * size])


def explaining(pairs, couples, signs="ab.z"):
    """Return all sets of names whose stamps alone can make each couple of layers, small sets first."""
    names = [name for name, stamp in pairs]
    return [
        chosen for chosen in all_subsets(names)
        if all(can_make([p for p in pairs if p[0] in chosen], start, seen, signs) for start, seen in couples)
    ]
