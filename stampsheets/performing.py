"""Deeds that are done on a desk one after the other."""

from stampsheets.blocks import Batch, Trial
from stampsheets.errors import BadDeed, Mismatch, StampError
from stampsheets.layers import DASH

LENGTHS = {
    "press": 2, "undo": 1, "back": 2, "make": 2, "sheet": 2, "show": 1, "check": 2,
    "trial": 2, "batch": 2, "attempt": 2,
}
WORDS_OF_BLOCKS = ("trial", "batch", "attempt")


def check_deeds(deeds):
    """Raise the error of the first deed that has no form of a deed."""
    for deed in deeds:
        if len(deed) == 0 or deed[0] not in LENGTHS or len(deed) != LENGTHS[deed[0]]:
            raise BadDeed(deed)
        if deed[0] in WORDS_OF_BLOCKS:
            check_deeds(deed[1])


def check(desk, layer):
    """Return True if the present sheet fits the layer, or raise an error for the first cell that differs."""
    for cell, (sign, mark) in enumerate(zip(desk.now, layer)):
        if mark != DASH and sign != mark:
            raise Mismatch(cell)
    return True


def attempt(desk, deeds):
    """Do the deeds as a batch, and return whether it stands and the results."""
    try:
        with Batch(desk) as batch:
            results = do_all(desk, deeds)
    except StampError:
        return (False, ())
    return (batch.kept, results)


def do_block(desk, word, deeds):
    """Do the deeds within a block, and return the result of the block."""
    if word == "attempt":
        return attempt(desk, deeds)
    if word == "trial":
        with Trial(desk):
            results = do_all(desk, deeds)
    else:
        with Batch(desk):
            results = do_all(desk, deeds)
    return results


def do_one(desk, deed):
    """Do a single deed, and return its result."""
    word = deed[0]
    if word == "undo":
        return desk.undo()
    if word == "show":
        return (desk.now, desk.presses)
    told = deed[1]
    if word == "press":
        return desk.press(told)
    if word == "back":
        return desk.back_to(told)
    if word == "make":
        return desk.make(told)
    if word == "sheet":
        desk.now = told
        return None
    if word == "check":
        return check(desk, told)
    return do_block(desk, word, told)


def do_all(desk, deeds):
    """Do the deeds one after the other, and return the tuple of their results."""
    results = []
    for deed in deeds:
        results.append(do_one(desk, deed))
    return tuple(results)


def perform(desk, deeds):
    """Look at the form of all deeds, do them one after the other, and return their results."""
    check_deeds(deeds)
    return do_all(desk, deeds)
