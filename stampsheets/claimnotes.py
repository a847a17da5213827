"""Claims written as one line."""

from stampsheets.claims import Claim, atoms_of, is_atom
from stampsheets.errors import BadClaimText
from stampsheets.layers import LONGEST
from stampsheets.wholes import told_number

MOST_ATOMS = 8
DEEPEST = 8

# What stands behind the word of an atom.
KINDS = {
    "used": ("name", "number"), "rest": ("name", "number", "number"), "over": ("name", "name"),
    "ahead": ("name", "name"), "next": ("name", "name"), "ends": ("name",), "begins": ("name",),
    "top": ("number", "name"), "bare": ("number",),
}
SIGN_OF = {"and": " & ", "or": " | "}
WORD_OF = {" & ": "and", " | ": "or"}


def atom_text(atom):
    """Return the text of an atom."""
    if atom[0] == "top" and atom[2] is None:
        return "bare " + str(atom[1])
    return " ".join([str(item) for item in atom])


def tree_text(tree):
    """Return the text of a tree."""
    word = tree[0]
    if word == "atom":
        return atom_text(tree[1])
    if word == "not":
        return "~" + tree_text(tree[1])
    return "(" + tree_text(tree[1]) + SIGN_OF[word] + tree_text(tree[2]) + ")"


def format_claim(claim):
    """Return the text of the claim."""
    return tree_text(claim.tree)


def item_told(stock, kind, word):
    """Return the item of this kind that the word tells, or None."""
    if kind == "number":
        return told_number(word, 0, LONGEST)
    return word if word in stock else None


def atom_told(stock, text):
    """Return the atom of which this is the text."""
    words = text.split(" ")
    word = words[0]
    if word not in KINDS or len(words) != len(KINDS[word]) + 1:
        raise BadClaimText()
    items = tuple([item_told(stock, kind, told) for kind, told in zip(KINDS[word], words[1:])])
    if None in items:
        raise BadClaimText()
    atom = ("top", items[0], None) if word == "bare" else (word,) + items
    if not is_atom(atom, stock.size):
        raise BadClaimText()
    return atom


def end_of_atom(text, at):
    """Return the place behind the atom that begins at this place."""
    end = at
    while end < len(text) and text[end] != ")" and text[end:end + 3] not in WORD_OF:
        end = end + 1
    return end


def tree_told(stock, text, at, deep):
    """Return the tree whose text begins at this place, so deep in other trees, and the place behind it."""
    if deep > DEEPEST:
        raise BadClaimText()
    sign = text[at:at + 1]
    if sign == "~":
        tree, end = tree_told(stock, text, at + 1, deep + 1)
        return ("not", tree), end
    if sign == "(":
        return couple_told(stock, text, at + 1, deep + 1)
    end = end_of_atom(text, at)
    return ("atom", atom_told(stock, text[at:end])), end


def couple_told(stock, text, at, deep):
    """Return the tree of two trees behind an opening bracket, and the place behind the closing one."""
    one, middle = tree_told(stock, text, at, deep)
    sign = text[middle:middle + 3]
    if sign not in WORD_OF:
        raise BadClaimText()
    two, end = tree_told(stock, text, middle + 3, deep)
    if text[end:end + 1] != ")":
        raise BadClaimText()
    return (WORD_OF[sign], one, two), end + 1


def parse_claim(stock, text):
    """Return the claim of which this is the text."""
    tree, end = tree_told(stock, text, 0, 1)
    if end != len(text) or len(atoms_of(tree)) > MOST_ATOMS:
        raise BadClaimText()
    return Claim(stock, tree)
