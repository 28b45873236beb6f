"""A second way to execute procedures, by functions that call each other."""

from penhome.matrices import composed, kept_matrix, matrix_of
from penhome.pens import HOME, moved


class Forever(Exception):
    """The execution goes on for ever without taking a bit."""


class NeedsBit(Exception):
    """The execution needs a bit, and there is none."""


class Oracle:
    """Executes a procedure; each method returns a way or None, a pen, and a matrix."""

    def __init__(self, bodies, bits):
        self.bodies = bodies
        self.bits = bits
        self.taken = 0
        self.active = []
        self.pens = []

    def bit(self):
        if self.taken == len(self.bits):
            raise NeedsBit()
        self.taken += 1
        return self.bits[self.taken - 1]

    def call(self, procedure, pen, matrix):
        # Every call that is going on is looked at, as the document says it.
        if (procedure, self.taken) in self.active:
            raise Forever()
        self.active.append((procedure, self.taken))
        way, pen, matrix = self.block(self.bodies[procedure], pen, matrix)
        self.active.pop()
        return way or 0, pen, matrix

    def block(self, statements, pen, matrix):
        for statement in statements:
            way, pen, matrix = self.statement(statement, pen, matrix)
            if way is not None:
                return way, pen, matrix
        return None, pen, matrix

    def statement(self, statement, pen, matrix):
        word, *rest = statement
        if word == "end":
            return rest[0], pen, matrix
        if word == "keep":
            way, behind, inner = self.block(rest[0], pen, matrix_of(("go", 0)))
            return way, pen[:4] + behind[4:], composed(matrix, kept_matrix(inner))
        if word == "either":
            return self.block(rest[self.bit()], pen, matrix)
        if word == "again":
            while self.bit():
                way, pen, matrix = self.block(rest[0], pen, matrix)
                if way is not None:
                    return way, pen, matrix
            return None, pen, matrix
        if word == "call":
            procedure, saved, blocks = rest
            way, behind, inner = self.call(procedure, pen, matrix_of(("go", 0)))
            pen = pen[:4] + behind[4:] if saved else behind
            matrix = composed(matrix, kept_matrix(inner) if saved else inner)
            return self.block(blocks[way], pen, matrix)
        pen = moved(pen, statement)
        self.pens.append(pen)
        return None, pen, composed(matrix, matrix_of(statement))


def answer(bodies, procedure, bits, pen=HOME):
    """Return what a run does: way, pen, length, matrix and pens; or the index of what is no run."""
    oracle = Oracle(bodies, bits)
    try:
        way, behind, matrix = oracle.call(procedure, pen, matrix_of(("go", 0)))
    except Forever:
        return -2
    except NeedsBit:
        return len(bits)
    if oracle.taken < len(bits):
        return oracle.taken
    return way, behind, len(oracle.pens), matrix, oracle.pens
