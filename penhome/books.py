"""Books: the procedures of a program, and the places of their statements."""

from penhome.errors import NoBook, NoCall, NoPath, NoProcedure
from penhome.pens import is_bit, is_command, is_integer, is_within

MOST_PROCEDURES = 3
MOST_IN_A_LIST = 8
MOST_IN_A_PROCEDURE = 12
DEEPEST_LEVEL = 3


def is_index(thing, many):
    """Tell whether a value is the index of one of so many things."""
    return is_within(thing, (0, many - 1))


def are_blocks(thing, many):
    """Tell whether a value is a list of exactly so many lists."""
    return isinstance(thing, list) and len(thing) == many and all([isinstance(block, list) for block in thing])


def is_call(thing, procedures):
    """Tell whether a tuple that begins with the word call is a statement."""
    if len(thing) != 4:
        return False
    _, procedure, saved, blocks = thing
    return is_index(procedure, procedures) and isinstance(saved, bool) and are_blocks(blocks, 2)


def is_statement(thing, level, procedures):
    """Tell whether a value is a statement, whatever stands in its blocks."""
    if is_command(thing):
        return True
    if not isinstance(thing, tuple) or len(thing) == 0:
        return False
    word = thing[0]
    if word == "end":
        return len(thing) == 2 and is_bit(thing[1])
    if level == DEEPEST_LEVEL:
        return False
    if word == "call":
        return is_call(thing, procedures)
    if word == "either":
        return are_blocks(list(thing[1:]), 2)
    return word in ("keep", "again") and are_blocks(list(thing[1:]), 1)


def blocks_of(statement):
    """Return the list of the blocks of a statement, which may be empty."""
    word = statement[0]
    if word == "call":
        return statement[3]
    if word in ("keep", "either", "again"):
        return list(statement[1:])
    return []


def with_blocks(statement, blocks):
    """Return the statement with these blocks in the place of its own."""
    word = statement[0]
    if word == "call":
        return (*statement[:3], blocks)
    if word in ("keep", "either", "again"):
        return (word, *blocks)
    return statement


def copied_statement(statement):
    """Return the statement with new lists."""
    return with_blocks(statement, [copied(block) for block in blocks_of(statement)])


def copied(block):
    """Return a new list of the same statements, with new lists in them."""
    return [copied_statement(statement) for statement in block]


def placed(block, ahead):
    """List the path and the statement of each statement, in reading order."""
    found = []
    for at, statement in enumerate(block):
        path = (*ahead, at)
        found.append((path, statement))
        for number, inner in enumerate(blocks_of(statement)):
            found.extend(placed(inner, (*path, number)))
    return found


def statement_at(body, path):
    """Return the statement at the path, or None if there is none."""
    # A flag is equal to a bit, so equal tuples need not both be paths.
    if not isinstance(path, tuple) or not all([is_integer(step) for step in path]):
        return None
    for place, statement in placed(body, ()):
        if place == path:
            return statement
    return None


def flagged(block, ahead, saved):
    """Copy a block, with the flags of its calls True at the paths in saved alone."""
    found = []
    for at, statement in enumerate(block):
        path = (*ahead, at)
        inner = [flagged(one, (*path, number), saved) for number, one in enumerate(blocks_of(statement))]
        if statement[0] == "call":
            found.append(("call", statement[1], path in saved, inner))
        else:
            found.append(with_blocks(statement, inner))
    return found


def check_block(block, procedure, ahead, read, procedures):
    """Raise NoBook for the first fault in a block, which is a list.

    So many statements of the procedure have been read ahead of the block;
    the result is how many have been read behind it.
    """
    for at, statement in enumerate(block):
        path = (*ahead, at)
        read = read + 1
        if at == MOST_IN_A_LIST or read > MOST_IN_A_PROCEDURE:
            raise NoBook(procedure, path)
        # A path has two items more for each level.
        if not is_statement(statement, len(path) // 2, procedures):
            raise NoBook(procedure, path)
        for number, inner in enumerate(blocks_of(statement)):
            read = check_block(inner, procedure, (*path, number), read, procedures)
    return read


def check_bodies(bodies):
    """Raise NoBook for the first fault of what is to become a book."""
    if not isinstance(bodies, list) or not 1 <= len(bodies) <= MOST_PROCEDURES:
        raise NoBook(-1, ())
    for procedure, body in enumerate(bodies):
        if not isinstance(body, list):
            raise NoBook(procedure, ())
        check_block(body, procedure, (), 0, len(bodies))


def check_calls(calls, known):
    """Raise NoCall if calls is not a list of different items of known."""
    if not isinstance(calls, list):
        raise NoCall(-1)
    for index, call in enumerate(calls):
        if call not in known or call in calls[:index]:
            raise NoCall(index)


class Book:
    """A list of one to three procedures, which does not change."""

    def __init__(self, bodies):
        check_bodies(bodies)
        self._bodies = [copied(body) for body in bodies]

    def __len__(self):
        return len(self._bodies)

    def __eq__(self, other):
        return isinstance(other, Book) and self._bodies == other._bodies

    def __iter__(self):
        raise TypeError("a book cannot be iterated over")

    def __contains__(self, x):
        if not isinstance(x, tuple) or len(x) != 2:
            return False
        procedure, path = x
        if not is_index(procedure, len(self._bodies)):
            return False
        return statement_at(self._bodies[procedure], path) is not None

    def __getitem__(self, at):
        # What is no pair names no procedure either.
        if not isinstance(at, tuple) or len(at) != 2:
            raise NoProcedure()
        procedure, path = at
        if not is_index(procedure, len(self._bodies)):
            raise NoProcedure()
        statement = statement_at(self._bodies[procedure], path)
        if statement is None:
            raise NoPath()
        return copied_statement(statement)

    def bodies(self):
        """Return the list of the bodies."""
        return [copied(body) for body in self._bodies]

    def calls(self):
        """List the procedure and the path of each call statement, in reading order."""
        found = []
        for procedure, body in enumerate(self._bodies):
            paths = [path for path, statement in placed(body, ()) if statement[0] == "call"]
            found.extend([(procedure, path) for path in paths])
        return found

    def saved(self, calls):
        """Return the book in which exactly these calls are saved, or raise NoCall."""
        check_calls(calls, self.calls())
        bodies = []
        for procedure, body in enumerate(self._bodies):
            paths = [path for at, path in calls if at == procedure]
            bodies.append(flagged(body, (), paths))
        return Book(bodies)
