"""The texts of books."""

from penhome.books import DEEPEST_LEVEL, MOST_IN_A_LIST, MOST_IN_A_PROCEDURE, MOST_PROCEDURES, Book
from penhome.errors import NoText
from penhome.pens import BOUNDS


def heads_of(statement):
    """List the lines of a statement that stand ahead of its blocks, each with its block or None."""
    word = statement[0]
    if word == "either":
        return [("either", statement[1]), ("or", statement[2])]
    if word in ("keep", "again"):
        return [(word, statement[1])]
    if word == "call":
        _, procedure, saved, blocks = statement
        first = f"call {procedure} saved" if saved else f"call {procedure}"
        return [(first, None), ("way 0", blocks[0]), ("way 1", blocks[1])]
    return [(" ".join([str(item) for item in statement]), None)]


def lines_of(block, level):
    """List the lines of a list of statements at a level."""
    margin = " " * (2 * level + 2)
    lines = []
    for statement in block:
        for head, inner in heads_of(statement):
            lines.append(margin + head)
            if inner is not None:
                lines.extend(lines_of(inner, level + 1))
    return lines


def book_text(book):
    """Return the text of a book."""
    lines = []
    for procedure, body in enumerate(book.bodies()):
        lines.append(f"to {procedure}")
        lines.extend(lines_of(body, 0))
    return "\n".join(lines)


def number_from(word, bounds):
    """Return the number from one bound to the other that is written as a word, or None."""
    low, high = bounds
    # A word may have more digits than can be read, so the numbers are written instead.
    for number in range(low, high + 1):
        if str(number) == word:
            return number
    return None


def command_from(line):
    """Return the command with a line, or None."""
    word, *rest = line.split(" ")
    if word not in BOUNDS or len(rest) != len(BOUNDS[word]):
        return None
    numbers = [number_from(text, bounds) for text, bounds in zip(rest, BOUNDS[word])]
    return None if None in numbers else (word, *numbers)


def statement_from(line, level):
    """Return the statement in a list at a level whose first line this is, with empty blocks, or None."""
    made = [("end", 0), ("end", 1)]
    if level < DEEPEST_LEVEL:
        made = [*made, ("keep", []), ("again", []), ("either", [], [])]
        for procedure in range(MOST_PROCEDURES):
            made = [*made, *[("call", procedure, saved, [[], []]) for saved in (False, True)]]
    for statement in made:
        if heads_of(statement)[0][0] == line:
            return statement
    return command_from(line)


class Reader:
    """Reads the lines of a text, one by one."""

    def __init__(self):
        self.procedures = []
        # The number of statements read of the present procedure.
        self.many = 0
        # The lists that may get the next statement, by their levels, and for each of
        # these levels the lines that its last statement still needs, with their blocks.
        self.lists = []
        self.needed = []
        self.highest_call = 0

    def is_complete(self):
        """Tell whether the statements read have all their lines."""
        return not any(self.needed)

    def is_book(self):
        """Tell whether the lines read are all those of a book."""
        return self.is_complete() and self.highest_call < len(self.procedures)

    def take_line(self, line):
        """Read a line; return False if no text of a book goes on with it."""
        if line == f"to {len(self.procedures)}":
            return self.take_procedure()
        head = line.lstrip(" ")
        level, rest = divmod(len(line) - len(head) - 2, 2)
        if rest != 0 or not 0 <= level < len(self.lists):
            return False
        if any(self.needed[level + 1:]):
            return False
        del self.lists[level + 1:]
        del self.needed[level + 1:]
        if len(self.needed[level]) > 0:
            return self.take_needed(head, level)
        return self.take_statement(head, level)

    def take_procedure(self):
        """Begin the next procedure, if there may be one."""
        if len(self.procedures) == MOST_PROCEDURES or not self.is_complete():
            return False
        body = []
        self.procedures.append(body)
        self.many = 0
        self.lists = [body]
        self.needed = [[]]
        return True

    def take_needed(self, head, level):
        """Read a line that the last statement at a level needs."""
        (wanted, block), *later = self.needed[level]
        if head != wanted:
            return False
        self.needed[level] = later
        self.enter_block(block)
        return True

    def take_statement(self, head, level):
        """Read the first line of a statement of the list at a level."""
        statement = statement_from(head, level)
        if statement is None:
            return False
        if len(self.lists[level]) == MOST_IN_A_LIST or self.many == MOST_IN_A_PROCEDURE:
            return False
        self.lists[level].append(statement)
        self.many = self.many + 1
        if statement[0] == "call":
            self.highest_call = max(self.highest_call, statement[1])
        (_, block), *later = heads_of(statement)
        self.needed[level] = later
        if block is not None:
            self.enter_block(block)
        return True

    def enter_block(self, block):
        """Let a block, one level further in, get the next statement."""
        self.lists.append(block)
        self.needed.append([])


def read_book(text):
    """Return the book with a text, or raise NoText."""
    if not isinstance(text, str):
        raise NoText(-1)
    lines = text.split("\n")
    reader = Reader()
    for index, line in enumerate(lines):
        if not reader.take_line(line):
            raise NoText(index)
    if not reader.is_book():
        raise NoText(len(lines))
    return Book(reader.procedures)
