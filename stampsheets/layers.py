"""Marks, layers, sheets, and pressing a layer over another one."""

DASH = "-"
DOT = "."
LETTERS = "abcdefghijklmnopqrstuvwxyz"
MARKS = ".abcdefghijklmnopqrstuvwxyz"
LONGEST = 30


def is_layer(value):
    """Return True if the value is a layer, otherwise False."""
    if not isinstance(value, str):
        return False
    if not 1 <= len(value) <= LONGEST:
        return False
    return all([sign == DASH or sign in MARKS for sign in value])


def is_sheet(value):
    """Return True if the value is a sheet, otherwise False."""
    return is_layer(value) and DASH not in value


def cells_of(one):
    """Return the cells at which the layer has marks, in ascending order."""
    return tuple([cell for cell, sign in enumerate(one) if sign != DASH])


def agree(one, two):
    """Return True if the layers have no different marks at any cell, otherwise False."""
    for first, second in zip(one, two):
        if first != second and first != DASH and second != DASH:
            return False
    return True


def within(one, two):
    """Return True if `two` has every mark of `one` at the same cell, otherwise False."""
    for first, second in zip(one, two):
        if first != second and first != DASH:
            return False
    return True


def joined(one, two):
    """Return the layer with exactly the marks of both, or None if they do not agree."""
    if not agree(one, two):
        return None
    return press(one, two)


def freed(one, chosen):
    """Return the layer with dashes at the chosen cells."""
    return "".join([DASH if cell in chosen else sign for cell, sign in enumerate(one)])


def kept_at(one, chosen):
    """Return the layer with dashes at all cells but the chosen ones."""
    return "".join([sign if cell in chosen else DASH for cell, sign in enumerate(one)])


def empty_layer(size):
    """Return the layer of this size that has no marks."""
    return DASH * size


def filled(one):
    """Return the sheet that has a dot wherever the layer has a dash."""
    return one.replace(DASH, DOT)


def layer_order(one):
    """Return a value by which layers of one size are sorted."""
    # The character codes rise from the dash over the dot to the letters,
    # so strings already compare in the order of layers.
    return one


def press(one, two):
    """Return the layer that is made when `two` is pressed over `one`."""
    return "".join([below if above == DASH else above for below, above in zip(one, two)])
