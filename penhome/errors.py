"""The errors of the program."""


class HomeError(ValueError):
    """Stands above all other errors of the program."""


class NoPen(HomeError):
    """A value is not a pen."""


class NoCommand(HomeError):
    """A value is not a command."""


class NoProcedure(HomeError):
    """A value is not the index of a procedure of the book."""


class NoWay(HomeError):
    """A value is not a way, which is 0 or 1."""


class NoPath(HomeError):
    """A value is not the path of a statement that the function can take."""


class NoTable(HomeError):
    """A value is not a dict from the keys of the book to spaces."""


class NoVariables(HomeError):
    """A value is not a list of one or two keys of the book."""


class NoCount(HomeError):
    """A value is not a number of runs."""


class NoPart(HomeError):
    """A value is not the number of a part of a pen."""


class NoNumber(HomeError):
    """A value is not a tuple of two integers."""


class NoBook(HomeError):
    """The bodies make no book; procedure and path tell the first fault."""

    def __init__(self, procedure, path):
        self.procedure = procedure
        self.path = path


class NoCall(HomeError):
    """A list is not one of calls of the book; index tells the first fault."""

    def __init__(self, index):
        self.index = index


class NoRun(HomeError):
    """A list of bits is not a run; index tells why."""

    def __init__(self, index):
        self.index = index


class NoRows(HomeError):
    """A list is not one of matrices; index tells the first fault."""

    def __init__(self, index):
        self.index = index


class NoEquations(HomeError):
    """A list is not one of equations; index tells the first fault."""

    def __init__(self, index):
        self.index = index


class NoEquation(HomeError):
    """A value is not an equation; place names the item at fault."""

    def __init__(self, place):
        self.place = place


class TooMany(HomeError):
    """The book has too many calls; many is their number."""

    def __init__(self, many):
        self.many = many


class NoText(HomeError):
    """A text is not that of a book; line is the first line at fault."""

    def __init__(self, line):
        self.line = line
