"""Totals: what is 0 throughout a space of matrices.

A total is a list of tuples of an item and a number. It stands for the sum of these
items of a matrix, each multiplied by its number. A space is the set of all matrices
for which some totals are 0; with each dimension more, it has one total less.
"""

from math import gcd


def item_totals(items):
    """Return the totals of the space that has 0 at all these items."""
    return [[(at, 1)] for at in items]


def value_of(total, matrix):
    """Return what a total is for a matrix."""
    return sum([number * matrix[at] for at, number in total])


def cancelled(total, times, other, less):
    """Return the total so many times, less the other so many times, in least numbers."""
    ahead = {at: times * number for at, number in total}
    changed = {at: ahead.get(at, 0) - less * number for at, number in other}
    numbers = {**ahead, **changed}
    divisor = 0
    for number in numbers.values():
        divisor = gcd(divisor, number)
    return [(at, number // divisor) for at, number in numbers.items() if number != 0]


def narrowed(totals, matrix):
    """Return the totals of a space with a matrix more; as many if it contains the matrix."""
    values = [value_of(total, matrix) for total in totals]
    sizes = [(len(total), at) for at, total in enumerate(totals) if values[at] != 0]
    if len(sizes) == 0:
        return totals
    # One total goes, and is taken out of the others. A short one leaves them short.
    _, gone = min(sizes)
    return [
        cancelled(total, values[gone], totals[gone], values[at]) if values[at] != 0 else total
        for at, total in enumerate(totals) if at != gone
    ]
