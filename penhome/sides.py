"""The two sides of equations, executed on matrices or on pieces of runs."""

from penhome.matrices import identity, row_of, rows_behind

# The rows of each part in a matrix.
PART_ROWS = ((1, 2), (3, 4), (5, 6))


def side_rows(matrices, side, numbers):
    """Return rows of the matrix of a side, in the homogeneous form."""
    last = matrices[side[-1]] if len(side) > 0 else identity()
    rows = [row_of(last, number) for number in numbers]
    for index in side[:-1][::-1]:
        rows = rows_behind(matrices[index], rows)
    factor = 1
    for index, matrix in enumerate(matrices):
        if index not in side:
            factor = factor * matrix[0]
    return [[factor * number for number in row] for row in rows]


def is_broken(matrices, left, right, parts):
    """Tell whether the two sides differ, on one matrix for each variable."""
    numbers = [number for part in parts for number in PART_ROWS[part]]
    return side_rows(matrices, left, numbers) != side_rows(matrices, right, numbers)


def chosen(lists):
    """List all choices of one item of each list."""
    choices = [[]]
    for items in lists:
        choices = [[*choice, item] for choice in choices for item in items]
    return choices


def holds_on(bases, left, right, parts):
    """Tell whether an equation holds on each choice of one matrix for each variable."""
    # Two equal sides need not be tried on what may be very many choices.
    if left == right:
        return True
    for matrices in chosen(bases):
        if is_broken(matrices, left, right, parts):
            return False
    return True


def least_breaking(lists, left, right, parts):
    """Return the pieces, one for each variable, that break an equation, or None.

    No choice of pieces from the lists breaks it with fewer commands in all.
    """
    if left == right:
        return None
    indexes = chosen([list(range(len(pieces))) for pieces in lists])
    choices = [[pieces[number] for pieces, number in zip(lists, choice)] for choice in indexes]
    lengths = [sum([piece.length for piece in choice]) for choice in choices]
    for _, at in sorted([(length, at) for at, length in enumerate(lengths)]):
        if is_broken([piece.matrix for piece in choices[at]], left, right, parts):
            return choices[at]
    return None
