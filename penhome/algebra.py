"""Which equations hold for one or two runs, and after how many runs a pen is back."""

from penhome.equations import are_keys
from penhome.errors import NoCount, NoVariables
from penhome.matrices import composed, identity
from penhome.pens import is_within
from penhome.pieces import bits_of
from penhome.searches import pieces_by_key
from penhome.sides import least_breaking
from penhome.tables import check_key

ALL_PARTS = (0, 1, 2)

# The two sides of each equation that may hold, in order.
OF_ONE = (((), (0,)),)
OF_TWO = (
    ((), (0, 1)),
    ((), (1, 0)),
    ((0,), (0, 1)),
    ((0,), (1,)),
    ((0,), (1, 0)),
    ((0, 1), (1,)),
    ((0, 1), (1, 0)),
    ((1,), (1, 0)),
)


def equations_of(book, variables):
    """List the two sides of each equation that holds for one or two keys of a book.

    Raises NoVariables.
    """
    if not are_keys(variables, len(book), 1, 2):
        raise NoVariables()
    pieces = pieces_by_key(book)
    lists = [pieces[key] for key in variables]
    candidates = OF_ONE if len(variables) == 1 else OF_TWO
    return [
        (list(left), list(right)) for left, right in candidates
        if least_breaking(lists, left, right, ALL_PARTS) is None
    ]


def rounds(book, procedure, way):
    """Return after how many runs of a key each pen is back at least, or None.

    Raises NoProcedure or NoWay.
    """
    check_key(book, procedure, way)
    pieces = pieces_by_key(book)[procedure, way]
    if len(pieces) == 0:
        return 1
    # If runs with the matrices A and B come round, so do they with one A in the place
    # of one B, and so A is equal to B.
    if len(pieces) > 1:
        return None
    power = pieces[0].matrix
    for many in (1, 2, 4):
        if power == identity():
            return many
        power = composed(power, power)
    return None


def comes_round(matrix, count):
    """Tell whether a matrix is the identity if it is executed so many times."""
    power = identity()
    for _ in range(count):
        power = composed(power, matrix)
    return power == identity()


def breaking_round(book, procedure, way, *, count):
    """Return so many runs of a key after which a pen is not back, or None.

    No such runs have fewer commands in all. Raises NoProcedure, NoWay or NoCount.
    """
    check_key(book, procedure, way)
    if not is_within(count, (1, 6)):
        raise NoCount()
    pieces = pieces_by_key(book)[procedure, way]
    if len(pieces) == 0:
        return None
    if not comes_round(pieces[0].matrix, count):
        return [bits_of(pieces[0]) for _ in range(count)]
    # All runs that are shorter than the second one have the matrix of the first, which
    # comes round, so at least one of the runs is as long as the second.
    if len(pieces) == 1:
        return None
    return [*[bits_of(pieces[0]) for _ in range(count - 1)], bits_of(pieces[1])]
