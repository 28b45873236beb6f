"""Tables: the spaces of all runs of each procedure that end in each way."""

from penhome.bodies import of_body
from penhome.books import is_index
from penhome.errors import NoProcedure, NoTable, NoWay
from penhome.pens import is_bit
from penhome.pieces import bits_of
from penhome.searches import pieces_by_key
from penhome.spaces import Space


def space_of(pieces):
    """Return the space of the matrices of some pieces."""
    return Space([piece.matrix for piece in pieces])


def table_of(pieces):
    """Return the table of the spaces of a dict from keys to pieces."""
    return {key: space_of(pieces[key]) for key in pieces}


def table(book):
    """Return a dict from each key of a book to its space."""
    return table_of(pieces_by_key(book))


def is_table(book, thing):
    """Tell whether a value is a dict from exactly the keys of a book to spaces."""
    keys = [(procedure, way) for procedure in range(len(book)) for way in (0, 1)]
    if not isinstance(thing, dict) or len(thing) != len(keys):
        return False
    return all([key in thing and isinstance(thing[key], Space) for key in keys])


def check_key(book, procedure, way):
    """Raise NoProcedure or NoWay if these two make no key of a book."""
    if not is_index(procedure, len(book)):
        raise NoProcedure()
    if not is_bit(way):
        raise NoWay()


def body_space(book, table, procedure, way):
    """Return the body space of a key with a table.

    Raises NoTable, NoProcedure or NoWay.
    """
    if not is_table(book, table):
        raise NoTable()
    check_key(book, procedure, way)
    return of_body(table, book.bodies()[procedure])[way]


def is_contained(space, other):
    """Tell whether a space is contained in another one."""
    return all([row in other for row in space.rows()])


def table_fault(book, thing):
    """Return why a value is not a closed table of a book, or None."""
    if not is_table(book, thing):
        return ("form",)
    for procedure, body in enumerate(book.bodies()):
        for way, space in enumerate(of_body(thing, body)):
            if not is_contained(space, thing[procedure, way]):
                return ("closed", procedure, way)
    return None


def basis_runs(book, procedure, way):
    """Return least runs of a key whose matrices are a basis of its space.

    Raises NoProcedure or NoWay.
    """
    check_key(book, procedure, way)
    return [bits_of(piece) for piece in pieces_by_key(book)[procedure, way]]
