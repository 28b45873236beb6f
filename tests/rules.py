"""A second way to find spaces: from the front, by lists of matrices and by fractions."""

from bases import canonical
from making import blocks_in
from penhome.matrices import composed, kept_matrix, matrix_of
from penhome.spaces import Space

IDENTITY = matrix_of(("go", 0))


def products(some, others):
    return canonical([composed(one, other) for one in some for other in others])


def kept(rows):
    return canonical([kept_matrix(row) for row in rows])


def merged(some, others):
    return [canonical([*one, *other]) for one, other in zip(some, others)]


def from_list(table, rows, block):
    """Return the matrices behind a list, and those behind each of its ends, from some matrices."""
    ends = [[], []]
    for statement in block:
        rows, *more = from_statement(table, rows, statement)
        ends = merged(ends, more)
    return [rows, *ends]


def from_statement(table, rows, statement):
    word, blocks = statement[0], blocks_in(statement)
    if word == "end":
        return [[], [rows, []][statement[1]], [[], rows][statement[1]]]
    if word == "keep":
        return [products(rows, kept(inner)) for inner in from_list(table, [IDENTITY], blocks[0])]
    if word == "either":
        return merged(from_list(table, rows, blocks[0]), from_list(table, rows, blocks[1]))
    if word == "again":
        while True:
            beyond, *ends = from_list(table, rows, blocks[0])
            more = canonical([*rows, *beyond])
            if len(more) == len(canonical(rows)):
                return [rows, *ends]
            rows = more
    if word == "call":
        found = [[], [], []]
        for way in (0, 1):
            called = table[statement[1], way]
            called = kept(called) if statement[2] else called
            found = merged(found, from_list(table, products(rows, called), blocks[way]))
        return found
    return [products(rows, [matrix_of(statement)]), [], []]


def body_rows(table, body):
    """Return the canonical bases of both body spaces; the table has lists of matrices."""
    beyond, *ends = from_list(table, [IDENTITY], body)
    return [canonical([*beyond, *ends[0]]), canonical(ends[1])]


def table_rows(bodies):
    """Return the least closed table, as canonical bases: the body spaces, from zero on."""
    table = {(procedure, way): [] for procedure in range(len(bodies)) for way in (0, 1)}
    while True:
        found = {}
        for procedure, body in enumerate(bodies):
            found[procedure, 0], found[procedure, 1] = body_rows(table, body)
        if found == table:
            return table
        table = found


def spaces(table):
    return {key: Space(rows) for key, rows in table.items()}


def closed(bodies, table):
    """Return a closed table that contains the given one, as canonical bases."""
    while True:
        found = {}
        for procedure, body in enumerate(bodies):
            for way, rows in enumerate(body_rows(table, body)):
                found[procedure, way] = canonical([*table[procedure, way], *rows])
        if found == table:
            return table
        table = found
