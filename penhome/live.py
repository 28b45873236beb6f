"""Pens that live: each executes commands and runs of a book."""

from penhome.errors import NoNumber, NoPart, NoPen
from penhome.pens import HOME, is_integer, is_pen, is_within, moved
from penhome.runs import ran


def is_part(thing):
    """Tell whether a value is the number of a part of a pen."""
    return is_within(thing, (0, 2))


def is_pair(thing):
    """Tell whether a value is a tuple of two integers."""
    return isinstance(thing, tuple) and len(thing) == 2 and all([is_integer(number) for number in thing])


class Live:
    """A pen that changes, with a book."""

    def __init__(self, book, *, pen=HOME):
        if not is_pen(pen):
            raise NoPen()
        self._book = book
        # The parts stand alone, because what keeps place and heading can put back
        # whole attributes, but no slices of one.
        self._place = pen[:2]
        self._heading = pen[2:4]
        self._mark = pen[4:]

    @property
    def pen(self):
        """The pen as it is now."""
        return (*self._place, *self._heading, *self._mark)

    def __eq__(self, other):
        return isinstance(other, Live) and self._book == other._book and self.pen == other.pen

    def __iter__(self):
        raise TypeError("a pen that lives cannot be iterated over")

    def __getitem__(self, at):
        if not is_part(at):
            raise NoPart()
        parts = (self._place, self._heading, self._mark)
        return parts[at]

    def __setitem__(self, at, worth):
        if not is_part(at):
            raise NoPart()
        if not is_pair(worth):
            raise NoNumber()
        if at == 0:
            self._place = worth
        elif at == 1:
            self._heading = worth
        else:
            self._mark = worth

    def __iadd__(self, other):
        # The pen is one, so this raises NoCommand or nothing.
        self.become(moved(self.pen, other))
        return self

    def __call__(self, procedure, bits):
        way, behind, _ = ran(self._book, procedure, bits, pen=self.pen)
        self.become(behind)
        return way

    def become(self, pen):
        """Replace all parts by those of a pen."""
        self._place = pen[:2]
        self._heading = pen[2:4]
        self._mark = pen[4:]

    def kept(self, deed):
        """Return what a function returns for this object; place and heading are put back."""
        place, heading = self._place, self._heading
        try:
            return deed(self)
        finally:
            self._place, self._heading = place, heading
