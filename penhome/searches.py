"""Searches: the least pieces at each point of a flow whose matrices are independent."""

from heapq import heappop, heappush

from penhome.flows import AHEAD_OF, AS_IT_IS, BEHIND, COMMAND, Flow
from penhome.matrices import composed, kept_matrix
from penhome.pieces import made_piece
from penhome.totals import item_totals, narrowed

# Behind a piece of a run, place and mark are each the sum of a constant, of
# multiples of the place and of the mark ahead, and of what a matrix of two rows
# makes of the heading; the heading is the sum of a constant and the like. So these
# items decide all others of its matrix: each of those is 0 or equal to one of them.
RUN_ITEMS = (0, 7, 8, 10, 11, 12, 14, 17, 18, 21, 24, 25, 28, 31, 32, 35, 36, 38, 39, 40, 42, 45, 46)


class Search:
    """Finds pieces in the order of their numbers of commands, then of bits.

    A piece is dropped if its matrix is a combination of those found at its point
    before. It is no loss: each piece made of it is then a combination of pieces made
    of these, which are not longer.
    """

    def __init__(self, flow):
        self.flow = flow
        self.found = [[] for _ in flow.links]
        self.totals = [item_totals(RUN_ITEMS) for _ in flow.links]
        self.queue = []
        # Counts what is put into the queue, so that no two entries are equal.
        self.offered = 0

    def put(self, point, piece):
        """Put a piece to a point, unless the space of those there contains its matrix."""
        rest = narrowed(self.totals[point], piece.matrix)
        if len(rest) < len(self.totals[point]):
            self.totals[point] = rest
            self.found[point].append(piece)
            self.follow(point, piece)

    def is_full(self, point):
        """Tell whether the space of the pieces at a point contains all others."""
        return len(self.totals[point]) == 0

    def follow(self, point, piece):
        """Offer what the links of a point make of a new piece there."""
        for kind, brought, to in self.flow.links[point]:
            if kind == AHEAD_OF:
                for then in self.found[brought]:
                    self.offer(kind, piece, then, to)
            elif kind == BEHIND:
                for first in self.found[brought]:
                    self.offer(kind, first, piece, to)
            else:
                self.offer(kind, piece, brought, to)

    def offer(self, kind, first, then, to):
        """Put what is made of two pieces into the queue."""
        if not self.is_full(to):
            self.offered = self.offered + 1
            order = (first.length + then.length, first.size + then.size, self.offered)
            heappush(self.queue, (order, kind, first, then, to))

    def spread(self):
        """Find all pieces that the starts, and what has been put, lead to."""
        for start in self.flow.starts:
            self.put(start, self.flow.nothing)
        while self.queue:
            _, kind, first, then, to = heappop(self.queue)
            if not self.is_full(to):
                self.put(to, made_piece(matrix_made(kind, first, then), first, then))


def matrix_made(kind, first, then):
    """Return the matrix of what a link makes of two pieces."""
    if kind == AS_IT_IS:
        return first.matrix
    if kind in (COMMAND, AHEAD_OF, BEHIND):
        return composed(first.matrix, then.matrix)
    return kept_matrix(first.matrix)


def searched(flow):
    """Return the search of a flow in which only runs are executed."""
    search = Search(flow)
    search.spread()
    return search


def flow_of(book):
    """Return the flow of all procedures of a book."""
    flow = Flow(len(book))
    for procedure, body in enumerate(book.bodies()):
        flow.add_frame(body, [flow.ends[procedure, 0], flow.ends[procedure, 1]])
    return flow


def pieces_by_key(book):
    """Return a dict from each key of a book to the least independent runs, as pieces."""
    flow = flow_of(book)
    search = searched(flow)
    return {key: search.found[flow.ends[key]] for key in flow.ends}
