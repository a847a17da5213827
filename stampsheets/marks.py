"""The marks of a claim: what is remembered of a row that is read from its last press."""

from stampsheets.claims import atoms_of
from stampsheets.layers import DASH
from stampsheets.stocks import checked_names


def next_number(stock, atom, number, name):
    """Return the number of an atom after a press of the name was read."""
    word = atom[0]
    if word == "used":
        return min(number + 1, atom[2]) if name == atom[1] else number
    if word == "rest":
        return (number + 1) % atom[2] if name == atom[1] else number
    if word == "ahead":
        return 1 if name == atom[1] else 2 if name == atom[2] else number
    if word == "begins":
        return 1 if name == atom[1] else 0
    if word == "next":
        return number_of_next(atom, number, name)
    # The other kinds tell of a last press: what was read first stays.
    if number > 0:
        return number
    return first_number(stock, atom, name)


def number_of_next(atom, number, name):
    """Return the number of an atom `next` after a press of the name was read."""
    if number == 2 or (number == 1 and name == atom[1]):
        return 2
    return 1 if name == atom[2] else 0


def first_number(stock, atom, name):
    """Return the number of an atom `over`, `ends` or `top` that was 0 before."""
    word = atom[0]
    if word == "over":
        return 1 if name == atom[1] else 2 if name == atom[2] else 0
    if word == "ends":
        return 1 if name == atom[1] else 2
    if stock.stamp(name)[atom[1]] == DASH:
        return 0
    return 1 if name == atom[2] else 2


def atom_holds(atom, number):
    """Return True if an atom with this number holds."""
    word = atom[0]
    if word == "used":
        return number == atom[2]
    if word == "rest":
        return number == atom[3]
    if word == "next":
        return number == 2
    if word == "top" and atom[2] is None:
        return number == 0
    return number == 1


def tree_holds(tree, mark):
    """Return True if a tree holds whose atoms have these numbers."""
    word = tree[0]
    if word == "atom":
        return atom_holds(tree[1], mark[0])
    if word == "not":
        return not tree_holds(tree[1], mark)
    middle = len(atoms_of(tree[1]))
    one = tree_holds(tree[1], mark[:middle])
    two = tree_holds(tree[2], mark[middle:])
    return (one and two) if word == "and" else (one or two)


def first_mark(claim):
    """Return the mark of the claim before anything is read."""
    return (0,) * len(claim.atoms)


def next_mark(claim, mark, name):
    """Return the mark of the claim after a press of the name was read."""
    return tuple([next_number(claim.stock, atom, number, name) for atom, number in zip(claim.atoms, mark)])


def mark_holds(claim, mark):
    """Return True if the claim holds when everything was read, otherwise False."""
    return tree_holds(claim.tree, mark)


def holds(claim, row):
    """Return True if the claim holds for the row, otherwise False."""
    mark = first_mark(claim)
    for name in reversed(checked_names(claim.stock, row)):
        mark = next_mark(claim, mark, name)
    return mark_holds(claim, mark)
