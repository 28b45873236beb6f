"""Matrices of seven rows and seven columns, as lists of 49 integers."""

from penhome.errors import NoPen
from penhome.pens import is_integer, is_pen, moved


def is_matrix(thing):
    """Tell whether a value is a list of 49 integers."""
    return isinstance(thing, list) and len(thing) == 49 and all([is_integer(number) for number in thing])


def vector(pen):
    """Return the list of 1 and the six numbers of the pen, or raise NoPen."""
    if not is_pen(pen):
        raise NoPen()
    return [1, *pen]


def row_of(matrix, i):
    """Return the seven numbers of row i."""
    return matrix[7 * i:7 * i + 7]


def dot(row, column):
    """Return the sum of the products of the numbers at the same places."""
    return sum([a * b for a, b in zip(row, column)])


def identity():
    """Return the matrix that changes nothing."""
    return [int(i == j) for i in range(7) for j in range(7)]


def unit_pen(at):
    """Return the pen of zeros with a 1 at one place."""
    return tuple([int(i == at) for i in range(6)])


def probes():
    """Return the pen of zeros and the six unit pens."""
    return [(0, 0, 0, 0, 0, 0), *[unit_pen(at) for at in range(6)]]


def matrix_from(ends):
    """Return the matrix that takes the probes, in order, to the given pens."""
    # What is executed adds fixed numbers to a linear map, so where it takes
    # the probes says all of it. The differences have 0 as their number 0,
    # which makes row 0 come out right.
    start, *others = [vector(end) for end in ends]
    columns = [start, *[[a - b for a, b in zip(other, start)] for other in others]]
    return [column[i] for i in range(7) for column in columns]


def matrix_of(command):
    """Return the matrix of the command, or raise NoCommand."""
    return matrix_from([moved(pen, command) for pen in probes()])


def applied(matrix, pen):
    """Return the pen that the matrix gives, or raise NoPen."""
    ahead = vector(pen)
    return tuple([dot(row_of(matrix, i), ahead) for i in range(1, 7)])


def rows_behind(one, rows):
    """Return rows of the matrix of one, then other; rows are the same rows of other."""
    # The sum is written out because most of the time of a search is spent here.
    columns = [one[j::7] for j in range(7)]
    return [
        [a * h + b * i + c * j + d * k + e * m + f * n + g * o for h, i, j, k, m, n, o in columns]
        for a, b, c, d, e, f, g in rows
    ]


def composed(one, other):
    """Return the matrix of one, then other."""
    rows = rows_behind(one, [row_of(other, i) for i in range(7)])
    return [number for row in rows for number in row]


def kept_matrix(matrix):
    """Return the matrix that only leaves the mark as the given one does."""
    # The first number stands in place of 1, because only so the result is
    # linear in the matrix, also where that is not the matrix of a run.
    middle = [matrix[0] * number for number in identity()[7:35]]
    return [*matrix[:7], *middle, *matrix[35:]]
