"""All runs of few bits, and equations on them, executed on pens."""

from itertools import product

from oracle import answer
from penhome.matrices import composed, matrix_of
from penhome.pens import HOME
from penhome.runs import ran

IDENTITY = matrix_of(("go", 0))

# Where an execution takes these pens says where it takes all others.
PROBES = [(0, 0, 0, 0, 0, 0)] + [tuple(int(at == number) for number in range(6)) for at in range(6)]


# What has been found, by the text of what was asked: many tests ask the same again.
KNOWN = {}


def few_runs(bodies, procedure, most):
    """List the bits, way, length and matrix of all runs of at most so many bits."""
    asked = repr((bodies, procedure, most))
    if asked not in KNOWN:
        KNOWN[asked] = found_runs(bodies, procedure, most)
    return [(list(bits), way, length, list(matrix)) for bits, way, length, matrix in KNOWN[asked]]


def found_runs(bodies, procedure, most):
    found, waiting = [], [[]]
    for bits in waiting:
        told = answer(bodies, procedure, bits)
        if isinstance(told, tuple):
            found.append((bits, told[0], told[2], told[3]))
        elif told == len(bits) < most:
            waiting += [[*bits, 0], [*bits, 1]]
    return found


def least_runs(bodies, key, most):
    """List a shortest one of the runs of few bits for each matrix, as tuples of length, bits and matrix."""
    least = {}
    for bits, way, length, matrix in few_runs(bodies, key[0], most):
        if way == key[1] and (tuple(matrix) not in least or length < least[tuple(matrix)][0]):
            least[tuple(matrix)] = (length, bits, matrix)
    return sorted(least.values(), key=lambda run: run[0])


def side_of(matrices, side):
    """Return the matrix of a side, in the homogeneous form of point 38."""
    total = IDENTITY
    for index in side:
        total = composed(total, matrices[index])
    for index, matrix in enumerate(matrices):
        if index not in side:
            total = [matrix[0] * number for number in total]
    return total


def holds_on(matrices, equation):
    """Tell whether an equation holds on one matrix for each variable."""
    _, left, right, parts = equation
    one, other = side_of(matrices, left), side_of(matrices, right)
    return all(one[14 * part + 7:14 * part + 21] == other[14 * part + 7:14 * part + 21] for part in parts)


def all_hold(lists, equation):
    return all(holds_on(matrices, equation) for matrices in product(*lists))


def part_of(pen, part):
    return pen[2 * part:2 * part + 2]


def breaks(book, equation, runs):
    """Tell whether runs break an equation, by executing both sides on pens."""
    variables, left, right, parts = equation
    for start in [HOME, *PROBES]:
        ends = []
        for side in (left, right):
            pen = start
            for index in side:
                pen = ran(book, variables[index][0], runs[index], pen=pen)[1]
            ends.append(pen)
        if any(part_of(ends[0], part) != part_of(ends[1], part) for part in parts):
            return True
    return False


def least_sum(lists, equation):
    """Return the least sum of lengths with which runs of the lists break an equation, or None."""
    sums = [sum(run[0] for run in choice) for choice in product(*lists)
            if not holds_on([run[2] for run in choice], equation)]
    return min(sums, default=None)
