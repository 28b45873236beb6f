"""Whether two statements side by side may change places."""

from penhome.books import Book, blocks_of, is_index, statement_at
from penhome.errors import NoPath, NoProcedure
from penhome.pieces import bits_of
from penhome.searches import flow_of, searched
from penhome.sides import least_breaking


def neighbours(book, procedure, path):
    """Return the statement at a path and the next one, or raise NoProcedure or NoPath."""
    if not is_index(procedure, len(book)):
        raise NoProcedure()
    body = book.bodies()[procedure]
    first = statement_at(body, path)
    if first is None:
        raise NoPath()
    second = statement_at(body, (*path[:-1], path[-1] + 1))
    if second is None:
        raise NoPath()
    return first, second


def contains_end(statement):
    """Tell whether a statement is an end or has one in its blocks."""
    if statement[0] == "end":
        return True
    return any([contains_end(inner) for block in blocks_of(statement) for inner in block])


def breaking_pieces(book, statements):
    """Return least runs of two statements whose order matters, as pieces, or None."""
    flow = flow_of(book)
    points = []
    for statement in statements:
        point = flow.new_point()
        # Neither statement contains an end, so nothing leads to the points of the ways.
        flow.add_frame([statement], [point, point])
        points.append(point)
    search = searched(flow)
    return least_breaking([search.found[point] for point in points], [0, 1], [1, 0], [0, 1, 2])


def can_swap(book, procedure, path):
    """Tell whether the statement at a path and the next one may change places.

    Raises NoProcedure or NoPath.
    """
    statements = neighbours(book, procedure, path)
    if any([contains_end(statement) for statement in statements]):
        return False
    return breaking_pieces(book, statements) is None


def swap_runs(book, procedure, path):
    """Return least runs of two neighbours whose order matters, or None.

    Raises NoProcedure or NoPath.
    """
    statements = neighbours(book, procedure, path)
    if any([contains_end(statement) for statement in statements]):
        return None
    pieces = breaking_pieces(book, statements)
    if pieces is None:
        return None
    first, second = pieces
    return bits_of(first), bits_of(second)


def list_with(body, path):
    """Return the list of a body in which the statement at a path stands."""
    found = body
    for at in range(1, len(path), 2):
        found = blocks_of(found[path[at - 1]])[path[at]]
    return found


def swapped(book, procedure, path):
    """Return the book in which two neighbours are exchanged.

    Raises NoProcedure or NoPath.
    """
    first, second = neighbours(book, procedure, path)
    bodies = book.bodies()
    place = list_with(bodies[procedure], path)
    at = path[-1]
    place[at:at + 2] = [second, first]
    return Book(bodies)
