"""Matrices and lists of matrices for tests, and bases by fractions."""

import math
import random
from fractions import Fraction

from making import SOME_COMMANDS
from penhome.matrices import composed, matrix_of
from samples import BIG, OTHER_BIG

ZERO = (0,) * 49
IDENTITY = tuple(matrix_of(("go", 0)))
COUNTED = tuple(100 + 3 * at + at * at for at in range(49))
MIXED = tuple((at * 37 + 11) % 53 - 26 for at in range(49))
GREAT = tuple(BIG * (at % 5 - 2) + OTHER_BIG * (at % 3) + at for at in range(49))


def unit(at, number=1):
    """Return the matrix with one number, and 0 elsewhere."""
    return [number * int(i == at) for i in range(49)]


def sparse(numbers):
    """Return the matrix with these numbers at these items."""
    return [numbers.get(at, 0) for at in range(49)]


def combined(rows, factors):
    """Return the sum of the rows, each multiplied by its factor."""
    return [sum(factor * row[at] for row, factor in zip(rows, factors)) for at in range(49)]


class Echelon:
    """Rows of fractions, by the item of their first number, which is 1."""

    def __init__(self):
        self.rows = {}

    def add(self, row):
        """Add a row; return False if it is a combination of those added before."""
        row = list(row)
        for at in range(49):
            if row[at] != 0:
                if at not in self.rows:
                    self.rows[at] = [Fraction(number, row[at]) for number in row]
                    return True
                times = row[at]
                row = [a - times * b if b != 0 else a for a, b in zip(row, self.rows[at])]
        return False


def independent(rows):
    """Return the rows that are not combinations of those ahead of them."""
    echelon = Echelon()
    return [row for row in rows if echelon.add(row)]


def canonical(rows):
    """Return the canonical basis, by fractions, and in another order of steps."""
    left = [[Fraction(number) for number in row] for row in independent(rows)]
    found = []
    for at in range(49):
        with_number = [row for row in left if row[at] != 0]
        if with_number:
            chosen = with_number[-1]
            left.remove(chosen)
            chosen = [number / chosen[at] for number in chosen]
            left = [[a - row[at] * b for a, b in zip(row, chosen)] for row in left]
            found = [[a - row[at] * b for a, b in zip(row, chosen)] for row in found] + [chosen]
    return [whole(row) for row in found]


def whole(row):
    """Return the least multiple of fractions that are integers without a common divisor."""
    many = math.lcm(*[number.denominator for number in row])
    numbers = [int(number * many) for number in row]
    return [number // math.gcd(*numbers) for number in numbers]


def some_matrices(source, kind):
    """Make a matrix of a kind."""
    if kind == "command":
        return matrix_of(source.choice(SOME_COMMANDS))
    if kind == "run":
        return composed(composed(some_matrices(source, "command"), some_matrices(source, "command")),
                        some_matrices(source, "command"))
    if kind == "sparse":
        return sparse({source.randrange(49): source.randint(-6, 6) for _ in range(4)})
    if kind == "small":
        return [source.randint(-3, 3) for _ in range(49)]
    if kind == "large":
        return [source.randint(-BIG, BIG) for _ in range(49)]
    return [0] * 49


def made_rows(seed):
    """Make a list of matrices, with duplicates and combinations among them."""
    source = random.Random(seed)
    rows = []
    for _ in range(source.randint(0, 7)):
        kind = source.choice(["command", "run", "sparse", "small", "large", "zero", "again", "combination"])
        if rows and kind == "again":
            rows.append([source.choice([1, -2, 3]) * number for number in source.choice(rows)])
        elif rows and kind == "combination":
            rows.append(combined(rows, [source.randint(-2, 2) for _ in rows]))
        else:
            rows.append(some_matrices(source, kind))
    return rows
