"""Tests of penhome.swaps: points 2 to 6 and 51 to 55."""

import copy
import unittest

from few import few_runs
from making import made_bodies, places, rich_bodies
from oracle import answer
from penhome.books import Book
from penhome.errors import NoPath, NoProcedure
from penhome.matrices import composed
from penhome.spaces import Space
from penhome.swaps import can_swap, swap_runs, swapped
from penhome.tables import table
from samples import BIG, STRANGE

GO, TURN, MARK = ("go", 1), ("turn", 1), ("mark",)
ZERO = Space([])
EXAMPLE = Book([[TURN, ("scale", 2), GO]])


def call(procedure, saved, zero, one):
    return ("call", procedure, saved, [zero, one])


def has_end(statement):
    return "('end'" in repr(statement)


def alone(bodies, statement, most):
    """List the bits, way, length and matrix of all runs of few bits of a statement alone."""
    return few_runs([*bodies, [statement]], len(bodies), most)


def with_next(bodies):
    """List the procedure, the path, the statement and the next one, of all statements with a next one."""
    known = {(procedure, path): statement for procedure, path, statement, _ in places(bodies)}
    found = []
    for (procedure, path), statement in known.items():
        following = (*path[:-1], path[-1] + 1)
        if (procedure, following) in known:
            found.append((procedure, path, statement, known[procedure, following]))
    return found


class Swaps(unittest.TestCase):
    def check(self, bodies, procedure, path, first, second, most=5):
        """Check all three functions at a place; runs of few bits show that the lengths are least."""
        book = Book(bodies)
        told, runs = can_swap(book, procedure, path), swap_runs(book, procedure, path)
        self.assertIs(type(told), bool)
        if has_end(first) or has_end(second):
            self.assertEqual((told, runs), (False, None))
        else:
            self.assertEqual(told, runs is None)
            sums = [one[2] + other[2] for one in alone(bodies, first, most) for other in alone(bodies, second, most)
                    if composed(one[3], other[3]) != composed(other[3], one[3])]
            if told:
                self.assertEqual(sums, [])
                self.assertEqual(table(swapped(book, procedure, path)), table(book))
            else:
                self.is_breaking(bodies, [first, second], runs, min(sums, default=None))
        self.is_swapped(book, procedure, path)
        return told

    def is_breaking(self, bodies, statements, runs, least):
        self.assertEqual((type(runs), [type(bits) for bits in runs]), (tuple, [list, list]))
        one, other = [answer([*bodies, [statement]], len(bodies), bits) for statement, bits in zip(statements, runs)]
        self.assertNotEqual(composed(one[3], other[3]), composed(other[3], one[3]))
        if least is not None:
            self.assertLessEqual(one[2] + other[2], least)

    def is_swapped(self, book, procedure, path):
        other = swapped(book, procedure, path)
        self.assertIsInstance(other, Book)
        following = (*path[:-1], path[-1] + 1)
        self.assertEqual(other[procedure, path], book[procedure, following])
        self.assertEqual(other[procedure, following], book[procedure, path])
        self.assertEqual(swapped(other, procedure, path), book)
        moved = len(path)
        for number, place, statement, _ in places(book.bodies()):
            inside = number == procedure and place[:moved] in (path, following)
            above = number == procedure and path[:len(place)] == place
            if not inside and not above:
                self.assertEqual(other[number, place], statement)

    def test_the_example_of_the_document(self):
        self.assertIs(can_swap(EXAMPLE, 0, (0,)), True)
        self.assertIs(can_swap(EXAMPLE, 0, (1,)), False)
        self.assertIsNone(swap_runs(EXAMPLE, 0, (0,)))
        self.assertEqual(swap_runs(EXAMPLE, 0, (1,)), ([], []))
        self.assertEqual(swapped(EXAMPLE, 0, (0,)), Book([[("scale", 2), TURN, GO]]))
        self.assertEqual(swapped(EXAMPLE, 0, (1,)), Book([[TURN, GO, ("scale", 2)]]))

    def test_commands(self):
        for first, second, wanted in [
                (GO, GO, True), (GO, TURN, False), (TURN, MARK, True), (GO, MARK, False), (TURN, ("mirror",), False),
                (("turn", 2), ("mirror",), True), (("place", 1, 1), ("place", 2, 2), False), (MARK, MARK, True),
                (("place", 1, 1), ("place", 1, 1), True), (("exchange",), TURN, True), (("return",), MARK, False),
                (("scale", 2), ("scale", 3), True), (("aim", 0, 0), ("scale", 3), True), (("aim", 1, 0), TURN, False)]:
            self.assertIs(can_swap(Book([[first, second]]), 0, (0,)), wanted)
            self.check([[first, second]], 0, (0,), first, second)

    def test_ends(self):
        for first in [("end", 0), ("end", 1), ("keep", [("end", 0)]), ("either", [], [("keep", [GO, ("end", 1)])]),
                      ("again", [("end", 1)]), call(1, False, [("end", 0)], []), call(1, True, [], [GO, ("end", 1)])]:
            for second in [GO, ("again", []), first]:
                for pair in [(first, second), (second, first)]:
                    book = Book([list(pair), [GO]])
                    self.assertIs(can_swap(book, 0, (0,)), False)
                    self.assertIsNone(swap_runs(book, 0, (0,)))
                    self.check([list(pair), [GO]], 0, (0,), *pair)

    def test_ends_of_called_procedures(self):
        for called in [[("end", 0)], [TURN, ("end", 1)], [("either", [("end", 1)], [TURN, ("keep", [("end", 1)])])]]:
            for saved in (False, True):
                body = [call(1, saved, [], []), ("scale", 2)]
                book = Book([body, called])
                self.assertIs(can_swap(book, 0, (0,)), True)
                self.check([body, called], 0, (0,), *body)
                body = [call(1, saved, [], [GO]), ("scale", 2)]
                self.check([body, called], 0, (0,), *body)

    def test_statements_without_a_run(self):
        never = call(1, False, [], [])
        for other in [GO, ("keep", [MARK]), never, call(2, False, [GO], [])]:
            for pair in [(never, other), (other, never)]:
                bodies = [list(pair), [never], []]
                self.assertIs(can_swap(Book(bodies), 0, (0,)), True)
                self.assertIsNone(swap_runs(Book(bodies), 0, (0,)))
                self.check(bodies, 0, (0,), *pair)
        self.assertIs(can_swap(Book([[never, ("end", 0)], [never]]), 0, (0,)), False)

    def test_a_run_of_the_statement_alone(self):
        # The block of the again takes the last bit, too; what follows it takes none.
        body = [("either", [], [MARK]), ("again", [GO]), TURN, ("either", [], [])]
        found = swap_runs(Book([body]), 0, (1,))
        self.assertEqual(found, ([1, 0], []))
        self.assertEqual(swap_runs(Book([body]), 0, (0,)), ([1], [1, 0]))
        self.assertIs(can_swap(Book([body]), 0, (2,)), True)

    def test_the_fewest_commands(self):
        either = ("either", [GO, GO, GO], [("either", [GO, GO], [TURN, TURN, TURN, TURN])])
        book = Book([[either, TURN]])
        self.assertEqual(swap_runs(book, 0, (0,)), ([1, 0], []))
        # The shortest run of each side alone goes with all runs of the other one.
        first, second = ("either", [], [GO]), ("either", [("scale", 1)], [TURN, MARK])
        self.assertEqual(swap_runs(Book([[first, second]]), 0, (0,)), ([1], [1]))
        self.check([[first, second]], 0, (0,), first, second)
        first = ("either", [("turn", 2)], [("either", [GO] * 3, [MARK])])
        for second in [("either", [("mirror",)], [GO, GO]), ("again", [("exchange",)]), ("keep", [("again", [MARK])])]:
            self.check([[first, second]], 0, (0,), first, second)

    def test_inner_lists(self):
        bodies = [
            [("keep", [GO, TURN]), ("either", [MARK, TURN], [("again", [GO, MARK])])],
            [call(0, True, [GO, GO], [TURN, GO]), ("either", [], [GO, TURN])],
            [call(1, False, [], [call(0, False, [TURN, ("scale", 2)], [])]), GO],
        ]
        book = Book(bodies)
        for procedure, path, first, second in with_next(bodies):
            self.check(bodies, procedure, path, first, second)
        self.assertEqual(swapped(book, 0, (0, 0, 0))[0, (0,)], ("keep", [TURN, GO]))
        self.assertEqual(swapped(book, 0, (1, 1, 0, 0, 0))[0, (1,)], ("either", [MARK, TURN], [("again", [MARK, GO])]))
        self.assertEqual(swapped(book, 1, (0, 1, 0))[1, (0,)], call(0, True, [GO, GO], [GO, TURN]))
        self.assertEqual(swapped(book, 2, (0, 1, 0, 0, 0))[2, (0, 1, 0)], call(0, False, [("scale", 2), TURN], []))

    def test_recursion(self):
        bodies = [[("either", [], [GO, call(0, False, [], []), ("go", -1)]), call(0, True, [], []), TURN]]
        for procedure, path, first, second in with_next(bodies):
            self.check(bodies, procedure, path, first, second, 7)
        self.assertIs(can_swap(Book(bodies), 0, (1,)), True)

    def test_made_books(self):
        told = {True: 0, False: 0}
        for seed in range(60):
            for bodies in [made_bodies(seed), rich_bodies(seed)]:
                for procedure, path, first, second in with_next(bodies):
                    told[self.check(bodies, procedure, path, first, second)] += 1
        self.assertGreater(min(told.values()), 60)

    def test_swapped_whatever_may_be_swapped(self):
        book = Book([[("end", 1), GO, MARK]])
        self.assertEqual(swapped(book, 0, (0,)), Book([[GO, ("end", 1), MARK]]))
        self.assertEqual(swapped(book, 0, (1,)), Book([[("end", 1), MARK, GO]]))
        self.assertEqual(book, Book([[("end", 1), GO, MARK]]))

    def test_what_is_returned_is_new(self):
        book = Book([[("either", [GO], [TURN]), ("either", [TURN], [MARK])]])
        first, second = swap_runs(book, 0, (0,)), swap_runs(book, 0, (0,))
        self.assertEqual(first, second)
        self.assertEqual(len({id(bits) for bits in (*first, *second)}), 4)
        first[0].clear(), first[1].append(5)
        self.assertEqual(swap_runs(book, 0, (0,)), second)
        same = Book([[("again", [GO]), TURN, ("again", [GO])]])
        one, other = swap_runs(same, 0, (0,)), swap_runs(same, 0, (1,))
        self.assertEqual(one, ([1, 0], []))
        self.assertEqual(other, ([], [1, 0]))
        bodies = copy.deepcopy(book.bodies())
        changed = swapped(book, 0, (0,))
        for each in changed.bodies():
            each.clear()
        self.assertEqual(book, Book(bodies))
        self.assertEqual(swapped(book, 0, (0,)), changed)


class WrongArguments(unittest.TestCase):
    BOOK = Book([[("keep", [GO, TURN]), ("either", [MARK], [GO, GO]), call(1, True, [], [GO, GO])], [GO, GO], []])

    def raises(self, error, procedure, path):
        for ask in (can_swap, swap_runs, swapped):
            with self.subTest(procedure=procedure, path=path):
                with self.assertRaises(error):
                    ask(self.BOOK, procedure, path)

    def test_no_procedure(self):
        for wrong in [*STRANGE, 3, -1, BIG, -BIG, ZERO, (0,), [0], "0"]:
            for path in [(0,), (9,), None, [], ()]:
                self.raises(NoProcedure, wrong, path)

    def test_no_path(self):
        for wrong in [
                *STRANGE, 0, BIG, ZERO, (-1,), (3,), (0, 0), (0, 1, 0), (0, 0, 2), (0, 0, -1), (0, -1, 0), (BIG,), (0, 0, 0, 0),
                (0, 0, 0, 0, 0), (1, 2, 0), (2, 0, 0), ("0",), (None,), ((0,),), ([0],), [0], [0, 0, 0], {0: 0}, (ZERO,)]:
            if wrong != (1,):
                self.raises(NoPath, 0, wrong)

    def test_flags_in_a_path(self):
        for wrong in [(True,), (False,), (False, 0, 0), (0, False, 0), (0, 0, False), (True, 1, 0), (1, True, 0), (1, 1, False)]:
            self.raises(NoPath, 0, wrong)

    def test_no_next_statement(self):
        for path in [(2,), (0, 0, 1), (1, 0, 0), (1, 1, 1), (2, 1, 1)]:
            self.assertIn((0, path), self.BOOK)
            self.raises(NoPath, 0, path)
        self.raises(NoPath, 1, (1,))
        self.raises(NoPath, 2, (0,))
        self.raises(NoPath, 2, ())

    def test_right_paths(self):
        for path in [(0,), (1,), (0, 0, 0), (1, 1, 0), (2, 1, 0)]:
            can_swap(self.BOOK, 0, path), swap_runs(self.BOOK, 0, path), swapped(self.BOOK, 0, path)


if __name__ == "__main__":
    unittest.main()
