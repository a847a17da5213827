"""Whether a comparison of two stocks is right, judged without searching."""

from stampsheets.inners import is_stamp_refusal
from stampsheets.rows import net_stamp
from stampsheets.stocks import check_sizes
from stampsheets.tupling import as_tuples

WORDS = ("alike", "inside", "around", "apart")


def is_row_for(stock, row, stamp):
    """Return True if this is a row of the stock with the net stamp."""
    return all([name in stock for name in row]) and net_stamp(stock, row) == stamp


def rows_are_right(stock, other, rows):
    """Return True if there is an item for each stamp, and each row makes its stamp by the other stock."""
    if len(rows) != len(stock):
        return False
    return all([
        row is None or is_row_for(other, row, stamp)
        for row, (name, stamp) in zip(rows, stock.stamps)
    ])


def is_all_made(missing, rows):
    """Return True if nothing is said to be missing and no row is."""
    return missing is None and None not in rows


def is_missing(stock, other, missing, cells):
    """Return True if this is a name of the stock and the cells refuse its stamp for the other stock."""
    if missing is None or missing not in stock:
        return False
    return is_stamp_refusal(other, stock.stamp(missing), cells)


def is_strange(one, two, sheet):
    """Return True if no stamp of the stocks has a mark of the sheet at the same cell."""
    if sheet is None:
        return False
    stamps = [stamp for name, stamp in one.stamps + two.stamps]
    return not any([sign == mark for stamp in stamps for sign, mark in zip(stamp, sheet)])


def is_comparison(one, two, comparison):
    """Return True if everything that the comparison says of the stocks holds, otherwise False."""
    check_sizes(one, two)
    word, rows, other_rows, missing, other_missing, sheet, cells, other_cells = as_tuples(comparison)
    if word not in WORDS:
        return False
    if not rows_are_right(one, two, rows) or not rows_are_right(two, one, other_rows):
        return False
    if word in ("alike", "inside"):
        held = is_all_made(missing, rows)
    else:
        held = is_missing(one, two, missing, cells)
    if word in ("alike", "around"):
        other_held = is_all_made(other_missing, other_rows)
    else:
        other_held = is_missing(two, one, other_missing, other_cells)
    return held and other_held and (word == "alike" or is_strange(one, two, sheet))
