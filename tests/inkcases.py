"""Small ink stocks for tests, and presses that follow the words of the document."""

from itertools import product
from random import Random


def plain_press(sheet, stamp):
    """Press with sets of colours."""
    made = []
    for sign, item in zip(sheet, stamp):
        colours = {colour for colour in (1, 2, 4) if int(sign) & colour}
        if item is not None:
            told = {colour for colour in (1, 2, 4) if item[1] & colour}
            colours = {"set": told, "add": colours | told, "bleach": colours - told}[item[0]]
        made.append(str(sum(colours)))
    return "".join(made)


def press_inks(pairs, sheet, row):
    for name in row:
        sheet = plain_press(sheet, dict(pairs)[name])
    return sheet


def fits_reading(sheet, reading):
    return all(sign in ("-", digit) for digit, sign in zip(sheet, reading))


def sheets_for(reading):
    return ["".join(signs) for signs in product(*["01234567" if sign == "-" else sign for sign in reading])]


def ink_reachable(pairs, sheets):
    found = list(dict.fromkeys(sheets))
    known = set(found)
    for sheet in found:
        for name, stamp in pairs:
            after = plain_press(sheet, stamp)
            if after not in known:
                known.add(after)
                found.append(after)
    return known


def random_item(random):
    if random.random() < 0.3:
        return None
    return (random.choice(["set", "add", "bleach"]), random.randrange(8))


def random_ink_pairs(seed, size, many):
    """Return the pairs of a small ink stock that depends on the seed alone."""
    random = Random(seed * 23 + 7)
    pairs = []
    while len(pairs) < many:
        stamp = tuple(random_item(random) for _ in range(size))
        if any(plain_press(sheet, stamp) != sheet for sheet in ("0" * size, "7" * size)):
            pairs.append(("xyzu"[len(pairs)], stamp))
    return tuple(pairs)
