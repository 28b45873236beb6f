"""Which calls must be saved so that equations hold."""

from penhome.books import is_index
from penhome.equations import breaking_runs, check_equations, equation_fault
from penhome.errors import TooMany
from penhome.searches import pieces_by_key

MOST_CALLS = 5


def positions(many):
    """List all ascending lists of some of so many positions, the shorter ones first."""
    found = []
    rows = [[]]
    for _ in range(many + 1):
        found.extend(rows)
        rows = [[*row, at] for row in rows for at in range(many) if len(row) == 0 or row[-1] < at]
    return found


def choices_of(book):
    """List all choices of calls of a book, in their order, or raise TooMany."""
    calls = book.calls()
    if len(calls) > MOST_CALLS:
        raise TooMany(len(calls))
    return [[calls[at] for at in row] for row in positions(len(calls))]


def first_broken(book, equations):
    """Return the index of the first equation that does not hold, and runs that break it, or None."""
    pieces = pieces_by_key(book)
    for index, equation in enumerate(equations):
        runs = breaking_runs(pieces, equation)
        if runs is not None:
            return index, runs
    return None


def fewest_saves(book, equations):
    """Return the first choice of saved calls with which equations hold, and why none ahead of it does.

    Raises NoEquations or TooMany.
    """
    check_equations(book, equations)
    reasons = []
    for choice in choices_of(book):
        broken = first_broken(book.saved(choice), equations)
        if broken is None:
            return "saved", choice, reasons
        reasons.append((choice, *broken))
    return "none", reasons


def is_result(thing):
    """Tell whether a value has the form of what fewest_saves returns."""
    if not isinstance(thing, tuple) or len(thing) not in (2, 3):
        return False
    word = "saved" if len(thing) == 3 else "none"
    return thing[0] == word and all([isinstance(item, list) for item in thing[1:]])


def is_good(book, equations, choice, reason):
    """Tell whether a reason shows that a choice is not enough."""
    if not isinstance(reason, tuple) or len(reason) != 3:
        return False
    told, index, runs = reason
    if told != choice or not is_index(index, len(equations)):
        return False
    return equation_fault(book.saved(choice), equations[index], runs) is None


def choices_ahead(choices, calls):
    """Return the choices ahead of the one that is equal to a list of calls, or None."""
    for at, choice in enumerate(choices):
        if choice == calls:
            return choices[:at]
    return None


def saves_fault(book, equations, thing):
    """Return why a value is not a result of fewest_saves, or None.

    Raises NoEquations or TooMany.
    """
    check_equations(book, equations)
    choices = choices_of(book)
    if not is_result(thing):
        return ("form",)
    word, *calls, reasons = thing
    ahead = choices if word == "none" else choices_ahead(choices, calls[0])
    if ahead is None:
        return ("calls",)
    if len(reasons) != len(ahead):
        return ("count",)
    for at, choice in enumerate(ahead):
        if not is_good(book, equations, choice, reasons[at]):
            return "reason", at
    if word == "saved":
        broken = first_broken(book.saved(choices[len(ahead)]), equations)
        if broken is not None:
            return "equation", broken[0]
    return None
