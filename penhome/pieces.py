"""Pieces of runs: what they do, and of what they are made."""

from penhome.matrices import identity, matrix_of


class Piece:
    """A piece of a run: its matrix, its numbers of commands and of bits, and its origin.

    The origin of a piece with one bit that is made of no others is this bit.
    That of a piece made of others is the tuple of these, in order.
    """

    def __init__(self, matrix, length, size, origin):
        self.matrix = matrix
        self.length = length
        self.size = size
        self.origin = origin


def no_piece():
    """Return the piece in which nothing is executed."""
    return Piece(identity(), 0, 0, ())


def bit_piece(bit):
    """Return the piece in which only a bit is taken."""
    return Piece(identity(), 0, 1, bit)


def command_piece(command):
    """Return the piece in which a command is executed."""
    return Piece(matrix_of(command), 1, 0, ())


def made_piece(matrix, first, then):
    """Return the piece made of two others, which has the matrix."""
    return Piece(matrix, first.length + then.length, first.size + then.size, (first, then))


def bits_of(piece):
    """Return the list of the bits of a piece."""
    bits = []
    # Pieces are made of others to any depth, so no call stands for a piece.
    left = [piece]
    while left:
        last = left.pop()
        if isinstance(last.origin, tuple):
            # What takes no bit may be long, and is left out.
            left.extend([part for part in last.origin[::-1] if part.size > 0])
        else:
            bits.append(last.origin)
    return bits
