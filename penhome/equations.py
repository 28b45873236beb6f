"""Equations: what they are, whether they hold, and which runs break them."""

from penhome.books import MOST_PROCEDURES, is_index
from penhome.errors import NoEquation, NoEquations, NoRun
from penhome.pens import is_bit, is_within
from penhome.pieces import bits_of
from penhome.runs import run_matrix
from penhome.searches import pieces_by_key
from penhome.sides import holds_on, is_broken, least_breaking
from penhome.tables import table_fault, table_of

MOST_VARIABLES = 3
MOST_PARTS = 3

# For each word, the number of variables and the two sides.
WORDS = {
    "home": (1, (0,), ()),
    "swap": (2, (0, 1), (1, 0)),
    "undo": (2, (0, 1), ()),
    "first": (2, (0, 1), (0,)),
    "last": (2, (0, 1), (1,)),
    "ring": (3, (0, 1, 2), (1, 2, 0)),
}


def is_key(thing, procedures):
    """Tell whether a value is a tuple of one of so many procedures and a way."""
    return isinstance(thing, tuple) and len(thing) == 2 and is_index(thing[0], procedures) and is_bit(thing[1])


def are_keys(thing, procedures, least, most):
    """Tell whether a value is a list of keys, from so few to so many."""
    if not isinstance(thing, list) or not least <= len(thing) <= most:
        return False
    return all([is_key(item, procedures) for item in thing])


def is_side(thing, variables):
    """Tell whether a value is a list of different indexes of so many variables."""
    if not isinstance(thing, list) or not all([is_index(item, variables) for item in thing]):
        return False
    return len(thing) == len(set(thing))


def are_parts(thing):
    """Tell whether a value is a list of one to three parts that ascend."""
    if not isinstance(thing, list) or not 1 <= len(thing) <= MOST_PARTS:
        return False
    if not all([is_within(item, (0, 2)) for item in thing]):
        return False
    return all([one < other for one, other in zip(thing, thing[1:])])


def wrong_place(book, thing):
    """Return the place at which a value is not an equation of a book, or None."""
    if not isinstance(thing, tuple) or len(thing) != 4:
        return "equation"
    variables, left, right, parts = thing
    if not are_keys(variables, len(book), 1, MOST_VARIABLES):
        return "variables"
    many = len(variables)
    if not is_side(left, many):
        return "left"
    if not is_side(right, many) or not all([index in left or index in right for index in range(many)]):
        return "right"
    if not are_parts(parts):
        return "parts"
    return None


def check_equation(book, equation):
    """Raise NoEquation if a value is not an equation of a book."""
    place = wrong_place(book, equation)
    if place is not None:
        raise NoEquation(place)


def check_equations(book, equations):
    """Raise NoEquations if a value is not a list of equations of a book."""
    if not isinstance(equations, list):
        raise NoEquations(-1)
    for index, equation in enumerate(equations):
        if wrong_place(book, equation) is not None:
            raise NoEquations(index)


def named(word, variables, *, parts=None):
    """Return the equation that a word names, or raise NoEquation."""
    if not isinstance(word, str) or word not in WORDS:
        raise NoEquation("equation")
    many, left, right = WORDS[word]
    if not are_keys(variables, MOST_PROCEDURES, many, many):
        raise NoEquation("variables")
    if parts is not None and not are_parts(parts):
        raise NoEquation("parts")
    return list(variables), list(left), list(right), [0, 1, 2] if parts is None else list(parts)


def breaking_runs(pieces, equation):
    """Return the runs that break an equation with the fewest commands, or None.

    The pieces are the least independent runs of each key.
    """
    variables, left, right, parts = equation
    broken = least_breaking([pieces[key] for key in variables], left, right, parts)
    if broken is None:
        return None
    return [bits_of(piece) for piece in broken]


def decide(book, equation):
    """Return that an equation holds, with the table, or runs that break it.

    Raises NoEquation.
    """
    check_equation(book, equation)
    pieces = pieces_by_key(book)
    runs = breaking_runs(pieces, equation)
    if runs is None:
        return "holds", table_of(pieces)
    return "runs", runs


def equation_fault(book, equation, thing):
    """Return why a value does not break an equation, or None.

    Raises NoEquation.
    """
    check_equation(book, equation)
    variables, left, right, parts = equation
    if not isinstance(thing, list) or len(thing) != len(variables):
        return ("form",)
    matrices = []
    for index, (procedure, wanted) in enumerate(variables):
        try:
            way, matrix, _ = run_matrix(book, procedure, thing[index])
        except NoRun:
            return "run", index
        if way != wanted:
            return "way", index
        matrices.append(matrix)
    if not is_broken(matrices, left, right, parts):
        return ("kept",)
    return None


def holds_fault(book, equations, thing):
    """Return why a value is no table that shows that equations hold, or None.

    Raises NoEquations.
    """
    check_equations(book, equations)
    fault = table_fault(book, thing)
    if fault is not None:
        return fault
    for index, (variables, left, right, parts) in enumerate(equations):
        if not holds_on([thing[key].rows() for key in variables], left, right, parts):
            return "equation", index
    return None
