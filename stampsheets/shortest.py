"""The shortest rows that lead from one layer to another."""

from stampsheets.freeing import layer_ways, step_table
from stampsheets.layers import agree
from stampsheets.ways import counts_after, first_row


def distance(stock, start, seen):
    """Return the least number of presses that lead from `start` to `seen`, or None."""
    for left, steps in step_table(stock, seen):
        if agree(left, start):
            return steps
    return None


def shortest_row(stock, start, seen):
    """Return the first of the shortest rows that lead from `start` to `seen`, or None."""
    levels, moves = layer_ways(stock, seen)
    ends = {left: True for left in moves if agree(left, start)}
    return first_row(stock.names, levels, moves, ends)


def shortest_count(stock, start, seen):
    """Return the number of all shortest rows that lead from `start` to `seen`."""
    levels, moves = layer_ways(stock, seen)
    counts = {seen: 1}
    for level in levels:
        total = sum([counts[left] for left in level if agree(left, start)])
        if total > 0:
            return total
        counts = counts_after(moves, counts)
    return 0
