"""Spaces: all combinations of some matrices."""

from math import gcd

from penhome.errors import NoRows
from penhome.matrices import composed, is_matrix, kept_matrix
from penhome.totals import item_totals, narrowed


def pivot_of(row):
    """Return the item of the first number that is not 0; there is one."""
    return min([at for at, number in enumerate(row) if number != 0])


def primitive(row):
    """Divide a row that is not zero by what leaves its pivot positive and least."""
    divisor = 0
    for number in row:
        divisor = gcd(divisor, number)
    if row[pivot_of(row)] < 0:
        divisor = -divisor
    return [number // divisor for number in row]


def cleared(row, at, other):
    """Return a multiple of the row, less one of the other, with 0 at the item.

    The other row has a positive number there, so the multiple of the row is
    a positive one.
    """
    divisor = gcd(row[at], other[at])
    times = other[at] // divisor
    less = row[at] // divisor
    return [times * a - less * b for a, b in zip(row, other)]


def reduced(row, basis):
    """Clear a row at all pivots; it is then zero exactly if the space contains it."""
    for pivot, other in basis:
        if row[pivot] != 0:
            row = cleared(row, pivot, other)
    return row


def extended(basis, row):
    """Return the canonical basis of a space with one row more, which it lacks."""
    rest = primitive(reduced(row, basis))
    at = pivot_of(rest)
    # Rows with a later pivot have 0 at this one already.
    ahead = [(pivot, primitive(cleared(other, at, rest))) for pivot, other in basis if pivot < at]
    behind = [(pivot, other) for pivot, other in basis if pivot > at]
    return [*ahead, (at, rest), *behind]


def independent(rows):
    """Return the rows that are not combinations of those ahead of them."""
    totals = item_totals(list(range(49)))
    found = []
    for row in rows:
        rest = narrowed(totals, row)
        if len(rest) < len(totals):
            found.append(row)
        totals = rest
    return found


def basis_of(rows):
    """Return the canonical basis, a list of tuples of a pivot and a row."""
    found = independent(rows)
    if len(found) == 49:
        # All matrices have a basis that is known, and rows of great numbers lead to it slowly.
        return [(at, [int(i == at) for i in range(49)]) for at in range(49)]
    basis = []
    for row in found:
        basis = extended(basis, row)
    return basis


def check_rows(rows):
    """Raise NoRows if a value is not a list of matrices."""
    if not isinstance(rows, list):
        raise NoRows(-1)
    for index, row in enumerate(rows):
        if not is_matrix(row):
            raise NoRows(index)


class Space:
    """The space of a list of matrices, which does not change."""

    def __init__(self, rows):
        check_rows(rows)
        self._basis = basis_of(rows)

    def __len__(self):
        return len(self._basis)

    def __eq__(self, other):
        return isinstance(other, Space) and self._basis == other._basis

    def __contains__(self, x):
        return is_matrix(x) and not any(reduced(x, self._basis))

    def __add__(self, other):
        return Space([row for _, row in [*self._basis, *other._basis]])

    def __mul__(self, other):
        return Space([composed(a, b) for _, a in self._basis for _, b in other._basis])

    def rows(self):
        """Return the canonical basis."""
        return [list(row) for _, row in self._basis]

    def kept(self):
        """Return the space of the kept matrices of all matrices of the space."""
        return Space([kept_matrix(row) for _, row in self._basis])
