"""The spaces of statements and of lists of statements, with a table.

Each is a list of three spaces: that of passing through, and those of ending in way
0 and in way 1.
"""

from penhome.matrices import identity, matrix_of
from penhome.spaces import Space


def of_identity():
    """Return the space of the identity."""
    return Space([identity()])


def zero():
    """Return the zero space."""
    return Space([])


def summed(some, others):
    """Return the sums of the first, second and third spaces."""
    return [one + other for one, other in zip(some, others)]


def behind(space, others):
    """Return three spaces, each behind all matrices of a space."""
    return [space * other for other in others]


def of_list(table, block):
    """Return the three spaces of a list of statements."""
    passing, *ends = of_identity(), zero(), zero()
    for statement in block:
        beyond, *more = behind(passing, of_statement(table, statement))
        ends = summed(ends, more)
        passing = beyond
    return [passing, *ends]


def of_statement(table, statement):
    """Return the three spaces of a statement."""
    word = statement[0]
    if word == "keep":
        return [space.kept() for space in of_list(table, statement[1])]
    if word == "either":
        return summed(of_list(table, statement[1]), of_list(table, statement[2]))
    if word == "again":
        passing, *ends = of_list(table, statement[1])
        times = repeated(passing)
        return [times, *behind(times, ends)]
    if word == "call":
        return of_call(table, statement)
    if word == "end":
        ends = [zero(), zero()]
        ends[statement[1]] = of_identity()
        return [zero(), *ends]
    return [Space([matrix_of(statement)]), zero(), zero()]


def repeated(space):
    """Return the least space that contains the identity and itself behind the space."""
    # Each product contains all compositions of twice as many matrices.
    times = of_identity() + space
    twice = times * times
    while len(twice) > len(times):
        times = twice
        twice = times * times
    return times


def of_call(table, statement):
    """Return the three spaces of a call."""
    _, procedure, saved, blocks = statement
    found = [zero(), zero(), zero()]
    for way, block in enumerate(blocks):
        space = table[procedure, way]
        called = space.kept() if saved else space
        found = summed(found, behind(called, of_list(table, block)))
    return found


def of_body(table, body):
    """Return the body spaces of a procedure for way 0 and way 1."""
    passing, *ends = of_list(table, body)
    return [passing + ends[0], ends[1]]
