"""Flows: the points of procedures, and what leads from one to another.

A point stands ahead of a statement or behind a list. At a point stand the pieces
that are executed from the start of its frame up to there; a frame is a procedure,
the block of a keep, or a statement that is executed alone.
"""

from penhome.pieces import bit_piece, command_piece, no_piece

# What is done with a piece on the way to the next point: it goes on as it is and
# takes at most a bit, a command follows, or place and heading are put back.
AS_IT_IS = 0
COMMAND = 1
KEPT = 2

# The pieces at another point follow those at this one, or stand ahead of them.
AHEAD_OF = 3
BEHIND = 4


class Flow:
    """Points, by their numbers, and the links that leave each of them.

    A link is a tuple of its kind, what it brings (a piece, or another point), and
    the point to which it leads.
    """

    def __init__(self, many):
        self.links = []
        self.starts = []
        self.nothing = no_piece()
        self.choices = [bit_piece(0), bit_piece(1)]
        # The points of all runs of each key, and of the same runs in saved calls.
        self.ends = {}
        self.saved_ends = {}
        for procedure in range(many):
            for way in (0, 1):
                end = self.new_point()
                self.ends[procedure, way] = end
                self.saved_ends[procedure, way] = self.new_kept_point(end)

    def new_point(self):
        """Make a point without links."""
        self.links.append([])
        return len(self.links) - 1

    def new_kept_point(self, at):
        """Make a point for what stands at another, with place and heading put back."""
        point = self.new_point()
        self.links[at].append((KEPT, self.nothing, point))
        return point

    def lead(self, at, piece, to):
        """Lead from a point to another, as it is but for the bit of the piece."""
        self.links[at].append((AS_IT_IS, piece, to))

    def lead_through(self, at, through, to):
        """Lead from a point to another by all that stands at a third."""
        self.links[at].append((AHEAD_OF, through, to))
        self.links[through].append((BEHIND, at, to))

    def add_frame(self, block, ends):
        """Add a frame that leads to these points in way 0 and way 1."""
        start = self.new_point()
        self.starts.append(start)
        self.add_block(block, start, ends[0], ends)

    def add_block(self, block, at, to, ends):
        """Lead from a point to another by a list of statements."""
        if len(block) == 0:
            self.lead(at, self.nothing, to)
        for number, statement in enumerate(block):
            behind = to if number == len(block) - 1 else self.new_point()
            self.add_statement(statement, at, behind, ends)
            at = behind

    def add_statement(self, statement, at, to, ends):
        """Lead from the point ahead of a statement to the one behind it."""
        word = statement[0]
        if word == "keep":
            self.add_keep(statement[1], at, to, ends)
        elif word == "either":
            self.add_choice(0, statement[1], at, to, ends)
            self.add_choice(1, statement[2], at, to, ends)
        elif word == "again":
            # Behind its block, the statement stands ahead once more.
            self.add_choice(1, statement[1], at, at, ends)
            self.lead(at, self.choices[0], to)
        elif word == "call":
            self.add_call(statement, at, to, ends)
        elif word == "end":
            self.lead(at, self.nothing, ends[statement[1]])
        else:
            self.links[at].append((COMMAND, command_piece(statement), to))

    def add_choice(self, bit, block, at, to, ends):
        """Lead from a point to another by a block that a bit chooses."""
        inner = self.new_point()
        self.lead(at, self.choices[bit], inner)
        self.add_block(block, inner, to, ends)

    def add_keep(self, block, at, to, ends):
        """Lead from a point to another by a block that is kept."""
        # The ways of the block lead to points of its own frame.
        inner_to = self.new_point()
        inner_ends = [self.new_point(), self.new_point()]
        start = self.new_point()
        self.starts.append(start)
        self.add_block(block, start, inner_to, inner_ends)
        for inner, outer in zip([inner_to, *inner_ends], [to, *ends]):
            self.lead_through(at, self.new_kept_point(inner), outer)

    def add_call(self, statement, at, to, ends):
        """Lead from a point to another by a call and the block of its way."""
        _, procedure, saved, blocks = statement
        points = self.saved_ends if saved else self.ends
        for way in (0, 1):
            inner = self.new_point()
            self.lead_through(at, points[procedure, way], inner)
            self.add_block(blocks[way], inner, to, ends)
