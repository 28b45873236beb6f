"""Runs: the lists of bits with which procedures end."""

from penhome.books import is_index
from penhome.errors import NoPen, NoProcedure, NoRun
from penhome.matrices import matrix_from, probes
from penhome.pens import HOME, is_bit, is_command, is_pen, moved

# An execution is written down as a list of deeds: commands, and these two,
# which begin and end what a keep or a saved call puts back.
HOLD = ("hold",)
BACK = ("back",)


class Execution:
    """Executes a procedure, and writes down its deeds and its way."""

    def __init__(self, procedures, bits):
        self.procedures = procedures
        self.bits = bits
        self.taken = 0
        # What is left to do, the next thing last: statements, BACK, and for
        # each call that has begun, what comes behind it. Calls may be nested
        # deeper than functions may call each other, so none stands for them.
        self.left = []
        # For each procedure, the bits taken when its present calls began.
        self.begun = [[] for _ in procedures]
        self.deeds = []
        self.way = 0

    def finish(self, procedure):
        """Execute the procedure to its end, or raise NoRun."""
        self.left.append(("call", procedure, False, [[], []]))
        while self.left:
            self.step(self.left.pop())
        if self.taken < len(self.bits):
            raise NoRun(self.taken)

    def step(self, thing):
        """Do the next thing of those that are left."""
        word = thing[0]
        if word == "keep":
            self.deeds.append(HOLD)
            self.left.append(BACK)
            self.enter(thing[1])
        elif word == "either":
            self.enter(thing[1 + self.take()])
        elif word == "again":
            if self.take() == 1:
                self.left.append(thing)
                self.enter(thing[1])
        elif word == "call":
            self.begin(thing)
        elif word == "behind":
            self.leave(thing, 0)
        elif word == "end":
            self.unwind(thing[1])
        else:
            self.deeds.append(thing)

    def enter(self, block):
        """Make the statements of a block the next things to do."""
        self.left.extend(block[::-1])

    def take(self):
        """Take a bit, or raise NoRun if there is none."""
        if self.taken == len(self.bits):
            raise NoRun(self.taken)
        self.taken = self.taken + 1
        return self.bits[self.taken - 1]

    def begin(self, statement):
        """Begin a call, or raise NoRun if this goes on for ever."""
        _, procedure, saved, blocks = statement
        # Of the present calls of a procedure, the last one began with the
        # most bits taken, so no other one needs to be looked at.
        begun = self.begun[procedure]
        if len(begun) > 0 and begun[-1] == self.taken:
            raise NoRun(-2)
        begun.append(self.taken)
        if saved:
            self.deeds.append(HOLD)
        self.left.append(("behind", procedure, saved, blocks))
        self.enter(self.procedures[procedure])

    def unwind(self, way):
        """End the present call, with all keeps that have begun in it."""
        thing = self.left.pop()
        while thing[0] != "behind":
            if thing == BACK:
                self.deeds.append(BACK)
            thing = self.left.pop()
        self.leave(thing, way)

    def leave(self, thing, way):
        """Go on behind a call that has ended in the way."""
        _, procedure, saved, blocks = thing
        self.begun[procedure].pop()
        if saved:
            self.deeds.append(BACK)
        self.enter(blocks[way])
        # The call that ends last is the whole execution.
        self.way = way


def check_bits(bits):
    """Raise NoRun if a value is not a list of bits."""
    if not isinstance(bits, list):
        raise NoRun(-1)
    for index, bit in enumerate(bits):
        if not is_bit(bit):
            raise NoRun(index)


def executed(book, procedure, bits):
    """Return the execution of a run, or raise NoProcedure or NoRun."""
    if not is_index(procedure, len(book)):
        raise NoProcedure()
    check_bits(bits)
    execution = Execution(book.bodies(), bits)
    execution.finish(procedure)
    return execution


def length_of(deeds):
    """Return the number of commands among the deeds."""
    return len([deed for deed in deeds if is_command(deed)])


def pens_behind(deeds, pen):
    """Generate the pen behind each deed."""
    held = []
    for deed in deeds:
        if deed == HOLD:
            held.append(pen)
        elif deed == BACK:
            pen = (*held.pop()[:4], *pen[4:])
        else:
            pen = moved(pen, deed)
        yield pen


def end_of(deeds, pen):
    """Return the pen behind all deeds."""
    end = pen
    for behind in pens_behind(deeds, pen):
        end = behind
    return end


def ran(book, procedure, bits, *, pen=HOME):
    """Return the way, the pen behind and the length of a run.

    Raises NoProcedure, NoRun or NoPen.
    """
    execution = executed(book, procedure, bits)
    # The pen is the last argument, so a wrong list of bits comes ahead of it.
    if not is_pen(pen):
        raise NoPen()
    return execution.way, end_of(execution.deeds, pen), length_of(execution.deeds)


def trace(book, procedure, bits, *, pen=HOME):
    """Generate the pen behind each command of a run.

    Raises NoProcedure, NoRun or NoPen when it is first asked.
    """
    deeds = executed(book, procedure, bits).deeds
    if not is_pen(pen):
        raise NoPen()
    for deed, behind in zip(deeds, pens_behind(deeds, pen)):
        if is_command(deed):
            yield behind


def run_matrix(book, procedure, bits):
    """Return the way, the matrix and the length of a run.

    Raises NoProcedure or NoRun.
    """
    execution = executed(book, procedure, bits)
    deeds = execution.deeds
    matrix = matrix_from([end_of(deeds, pen) for pen in probes()])
    return execution.way, matrix, length_of(deeds)
