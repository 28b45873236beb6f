"""Tests of penhome.runs: points 2 to 6, 19 to 25."""

import itertools
import types
import unittest

from making import lists_in, made_bodies
from oracle import answer
from penhome.books import Book
from penhome.errors import NoPen, NoProcedure, NoRun
from penhome.matrices import applied, composed, kept_matrix, matrix_of
from penhome.pens import HOME, moved
from penhome.runs import ran, run_matrix, trace
from penhome.spaces import Space
from samples import BIG, NO_PENS, PENS, STRANGE

GO = ("go", 1)
IDENTITY = matrix_of(("go", 0))

# A procedure that ends in the way of its bit, ahead of a command that is never executed.
WAYS = [("go", 3), ("mark",), ("turn", 1), ("either", [("end", 0)], [("end", 1)]), ("go", 9)]

NESTED = [[("either", [], [("go", 1), ("call", 0, False, [[], []]), ("go", -1)])]]


def call(procedure, saved, zero, one):
    return ("call", procedure, saved, [zero, one])


def all_bits(most):
    """List all lists of at most so many bits."""
    return [list(bits) for size in range(most + 1) for bits in itertools.product([0, 1], repeat=size)]


class Checks(unittest.TestCase):
    def same(self, bodies, bits, way, pen, length, *, start=HOME, procedure=0):
        with self.subTest(bodies=bodies, bits=bits):
            book = Book(bodies)
            found = ran(book, procedure, bits, pen=start)
            self.assertEqual(found, (way, pen, length))
            self.assertEqual([type(part) for part in found], [int, tuple, int])
            other_way, matrix, other_length = run_matrix(book, procedure, bits)
            self.assertEqual((other_way, applied(matrix, start), other_length), (way, pen, length))
            self.assertEqual(len(list(trace(book, procedure, bits, pen=start))), length)

    def fault(self, bodies, procedure, bits, index):
        with self.subTest(bodies=bodies, bits=bits):
            book = Book(bodies)
            for execute in [ran, run_matrix, lambda *values: next(trace(*values))]:
                with self.assertRaises(NoRun) as caught:
                    execute(book, procedure, bits)
                self.assertEqual(caught.exception.index, index)
                self.assertIs(type(caught.exception.index), int)


class Statements(Checks):
    PEN = (1, 2, 3, -4, 5, 6)

    def test_an_empty_procedure(self):
        self.same([[]], [], 0, HOME, 0)
        self.same([[]], [], 0, self.PEN, 0, start=self.PEN)
        self.fault([[]], 0, [0], 0)

    def test_commands_in_order(self):
        body = [("go", 2), ("turn", 1), ("go", 3), ("mark",), ("scale", 2), ("go", -1), ("exchange",)]
        self.same([body], [], 0, (2, 3, 0, 2, 2, 1), 7)
        pen = self.PEN
        for command in body:
            pen = moved(pen, command)
        self.same([body], [], 0, pen, 7, start=self.PEN)

    def test_keep_puts_back_place_and_heading_but_not_the_mark(self):
        self.same([[("keep", [("go", 2), ("turn", 1), ("mark",), ("go", 3)]), GO]], [], 0, (1, 0, 1, 0, 2, 0), 5)
        self.same([[("keep", [("aim", 4, 5), ("place", 7, 8), ("exchange",)])]], [], 0,
                  (1, 2, 3, -4, 7, 8), 3, start=self.PEN)
        self.same([[("keep", [("go", 1), ("keep", [("go", 1), ("mark",), ("go", 1)]), GO, GO])]], [], 0,
                  (0, 0, 1, 0, 2, 0), 6)
        self.same([[("keep", [])]], [], 0, self.PEN, 0, start=self.PEN)

    def test_either_takes_a_bit(self):
        bodies = [[("either", [("go", 2)], [("turn", 1), ("go", 3)]), ("mark",)]]
        self.same(bodies, [0], 0, (2, 0, 1, 0, 2, 0), 2)
        self.same(bodies, [1], 0, (0, 3, 0, 1, 0, 3), 3)
        bodies = [[("either", [], []), ("either", [GO], [("either", [], [("go", 5)])])]]
        self.same(bodies, [1, 0], 0, (1, 0, 1, 0, 0, 0), 1)
        self.same(bodies, [0, 1, 1], 0, (5, 0, 1, 0, 0, 0), 1)
        self.same(bodies, [0, 1, 0], 0, HOME, 0)
        self.fault(bodies, 0, [0, 1], 2)
        self.fault(bodies, 0, [0, 0, 0], 2)

    def test_again_takes_a_bit_ahead_of_each_time(self):
        bodies = [[("again", [GO, ("turn", 1)]), ("mark",)]]
        self.same(bodies, [0], 0, HOME, 1)
        self.same(bodies, [1, 0], 0, (1, 0, 0, 1, 1, 0), 3)
        self.same(bodies, [1, 1, 0], 0, (1, 1, -1, 0, 1, 1), 5)
        self.same(bodies, [1, 1, 1, 1, 0], 0, HOME, 9)
        self.fault(bodies, 0, [1, 1], 2)
        self.fault(bodies, 0, [1, 0, 1], 2)

    def test_again_inside_again(self):
        bodies = [[("again", [("again", [GO]), ("turn", 1)])]]
        self.same(bodies, [1, 1, 1, 0, 1, 1, 0, 0], 0, (2, 1, -1, 0, 0, 0), 5)
        self.same(bodies, [1, 0, 1, 0, 0], 0, (0, 0, -1, 0, 0, 0), 2)

    def test_a_call_that_is_not_saved(self):
        bodies = [[GO, call(1, False, [("go", 2)], [("go", 5)]), ("scale", 2)], WAYS]
        self.same(bodies, [0], 0, (4, 2, 0, 2, 4, 0), 6)
        self.same(bodies, [1], 0, (4, 5, 0, 2, 4, 0), 6)

    def test_a_saved_call_puts_back_ahead_of_its_block(self):
        bodies = [[GO, call(1, True, [("go", 2)], [("go", 5)]), ("scale", 2)], WAYS]
        self.same(bodies, [0], 0, (3, 0, 2, 0, 4, 0), 6)
        self.same(bodies, [1], 0, (6, 0, 2, 0, 4, 0), 6)

    def test_a_procedure_that_is_executed_to_its_end_ends_in_way_0(self):
        for body in [[], [GO], [("keep", [GO])]]:
            self.assertEqual(ran(Book([body]), 0, [])[0], 0)
        self.assertEqual(ran(Book([[("either", [], [])]]), 0, [1])[0], 0)
        self.same([[call(1, False, [GO], [])], [GO]], [], 0, (2, 0, 1, 0, 0, 0), 2)
        self.same([[call(1, False, [], [("end", 0)])], [("end", 1)]], [], 0, HOME, 0)
        # The way of a call does not become that of the caller.
        self.same([[call(1, False, [], [])], [("end", 1)]], [], 0, HOME, 0)

    def test_end_skips_what_stands_behind_it(self):
        for way in [0, 1]:
            self.same([[GO, ("end", way), GO, ("either", [], [])]], [], way, (1, 0, 1, 0, 0, 0), 1)
            self.same([[("again", [GO, ("end", way), GO]), ("go", 5)]], [1], way, (1, 0, 1, 0, 0, 0), 1)
            self.same([[("again", [GO, ("end", way), GO]), ("go", 5)]], [0], 0, (5, 0, 1, 0, 0, 0), 1)
            self.same([[("either", [], [GO, ("end", way)]), ("go", 5)]], [1], way, (1, 0, 1, 0, 0, 0), 1)
            self.fault([[("again", [("end", way)])]], 0, [1, 0], 1)
        self.same([[("end", 1), ("end", 0)]], [], 1, HOME, 0)

    def test_end_inside_keeps(self):
        bodies = [[GO, ("keep", [("go", 2), ("mark",), ("end", 1), GO]), ("go", 9)]]
        self.same(bodies, [], 1, (1, 0, 1, 0, 3, 0), 3)
        bodies = [[GO, ("keep", [("turn", 1), ("go", 2), ("keep", [("go", 3), ("mark",), ("end", 0)]), GO]), GO]]
        self.same(bodies, [], 0, (1, 0, 1, 0, 1, 5), 5)
        bodies = [[("keep", [GO, ("again", [GO, ("keep", [GO, ("mark",), ("end", 1)])])])]]
        self.same(bodies, [1], 1, (0, 0, 1, 0, 3, 0), 4)
        self.same(bodies, [0], 0, HOME, 1)
        bodies = [[("keep", [GO, ("keep", [GO, ("either", [("mark",), ("end", 1)], [])]), ("go", 5)]), ("go", 7)]]
        self.same(bodies, [0], 1, (0, 0, 1, 0, 2, 0), 3)
        self.same(bodies, [1], 0, (7, 0, 1, 0, 0, 0), 4)

    def test_end_inside_a_block_of_a_call_ends_the_caller(self):
        bodies = [[GO, call(1, False, [("end", 1)], [("keep", [GO, ("end", 0)])]), ("go", 9)], WAYS]
        self.same(bodies, [0], 1, (4, 0, 0, 1, 4, 0), 4)
        self.same(bodies, [1], 0, (4, 0, 0, 1, 4, 0), 5)
        bodies = [
            [call(1, False, [("go", 2)], [("go", 5)])],
            [("keep", [GO, call(2, True, [("mark",), ("end", 1)], []), ("go", 9)])],
            [("turn", 1), ("go", 7)],
        ]
        self.same(bodies, [], 0, (5, 0, 1, 0, 1, 0), 5)

    def test_an_end_inside_keeps_of_the_called_procedure_alone(self):
        bodies = [
            [("keep", [GO, call(1, False, [], [("turn", 1), ("go", 2), ("mark",)])])],
            [GO, ("keep", [("go", 4), ("end", 1)])],
        ]
        self.same(bodies, [], 0, (0, 0, 1, 0, 2, 2), 6)
        bodies = [[call(1, False, [], [("go", 2)]), ("mark",)], [GO, ("keep", [("go", 4), ("end", 1)])]]
        self.same(bodies, [], 0, (3, 0, 1, 0, 3, 0), 4)

    def test_a_saved_call_of_a_procedure_that_ends_inside_keeps(self):
        bodies = [[("go", 2), call(1, True, [GO], [("go", 3)])], [GO, ("keep", [GO, ("mark",), GO, ("end", 1)])]]
        self.same(bodies, [], 0, (5, 0, 1, 0, 4, 0), 6)

    def test_calls_in_blocks_of_calls(self):
        bodies = [
            [call(1, True, [GO, call(1, False, [("end", 0)], [("end", 1)])], [call(1, True, [("end", 1)], [])])],
            WAYS,
        ]
        self.same(bodies, [0, 0], 0, (4, 0, 0, 1, 4, 0), 7)
        self.same(bodies, [0, 1], 1, (4, 0, 0, 1, 4, 0), 7)
        self.same(bodies, [1, 0], 1, (0, 0, 1, 0, 3, 0), 6)
        self.same(bodies, [1, 1], 0, (0, 0, 1, 0, 3, 0), 6)

    def test_recursion(self):
        for many in range(6):
            self.same(NESTED, [1] * many + [0], 0, HOME, 2 * many)
            self.same(NESTED, [1] * many + [0], 0, self.PEN, 2 * many, start=self.PEN)
        # Each call goes on, turns its way around, and keeps its place or not.
        bodies = [[("either", [("end", 1)], [GO, call(0, False, [("turn", 1), ("end", 1)], [("mark",)])])]]
        self.same(bodies, [0], 1, HOME, 0)
        self.same(bodies, [1, 0], 0, (1, 0, 1, 0, 1, 0), 2)
        self.same(bodies, [1, 1, 0], 1, (2, 0, 0, 1, 2, 0), 4)
        self.same(bodies, [1, 1, 1, 0], 0, (3, 0, 0, 1, 3, 0), 6)

    def test_each_procedure_can_be_run(self):
        bodies = [[GO], [("go", 2), call(0, False, [], [])], [("end", 1)]]
        self.same(bodies, [], 0, (1, 0, 1, 0, 0, 0), 1, procedure=0)
        self.same(bodies, [], 0, (3, 0, 1, 0, 0, 0), 2, procedure=1)
        self.same(bodies, [], 1, HOME, 0, procedure=2)

    def test_the_pen_is_home_if_none_is_given(self):
        book = Book([[("go", 2), ("mark",)]])
        self.assertEqual(ran(book, 0, []), (0, (2, 0, 1, 0, 2, 0), 2))
        self.assertEqual(list(trace(book, 0, [])), [(2, 0, 1, 0, 0, 0), (2, 0, 1, 0, 2, 0)])


class NoRuns(Checks):
    # Procedure 0 of each book goes on for ever, whatever the bits are.
    FOREVER = [
        [[call(0, False, [], [])]],
        [[GO, ("keep", [call(0, True, [], [])]), ("either", [], [])]],
        [[call(1, False, [], [])], [call(0, False, [], [])]],
        [[call(1, False, [], [])], [call(2, False, [], [])], [GO, call(1, True, [], [])]],
        [[call(1, False, [], [])], [call(2, False, [], [])], [GO, call(2, True, [], [])]],
        [[call(1, False, [call(1, False, [call(0, False, [], [])], [])], [])], []],
    ]

    def test_rule_1_no_list(self):
        for wrong in [None, True, False, 0, 1, "", "01", (), (0,), (0, 1), {}, {0: 1}, Space([])]:
            self.fault([[]], 0, wrong, -1)
            self.fault([[("either", [], [])]], 0, wrong, -1)
            self.fault(self.FOREVER[0], 0, wrong, -1)

    def test_rule_2_no_bits(self):
        for wrong in [*STRANGE, 2, -1, 7, BIG, Space([]), [0], (0,), "0"]:
            for bodies in [[[]], [[("either", [], [])]], [[("again", [])]], *self.FOREVER]:
                self.fault(bodies, 0, [wrong], 0)
                self.fault(bodies, 0, [0, wrong], 1)
                self.fault(bodies, 0, [1, 0, 1, wrong, 0], 3)
                self.fault(bodies, 0, [0, 1, wrong, wrong], 2)

    def test_rule_3_for_ever(self):
        for bodies in self.FOREVER:
            for bits in all_bits(3):
                self.fault(bodies, 0, bits, -2)

    def test_rule_3_behind_some_bits(self):
        bodies = [[("either", [GO], [call(1, False, [], [])])], [call(2, False, [], [])], [call(1, False, [], [])]]
        self.same(bodies, [0], 0, (1, 0, 1, 0, 0, 0), 1)
        self.fault(bodies, 0, [1], -2)
        self.fault(bodies, 0, [1, 0, 0], -2)
        self.fault(bodies, 0, [], 0)
        self.fault(bodies, 0, [0, 1], 1)
        bodies = [[("again", [GO]), ("either", [], [call(1, True, [], [])])], [call(1, True, [], [])]]
        self.fault(bodies, 0, [1, 1, 0, 1], -2)
        self.fault(bodies, 0, [1, 1, 0, 0, 1], 4)
        self.fault(bodies, 0, [1, 1, 0], 3)

    def test_rule_3_needs_a_call_of_the_same_procedure_that_goes_on(self):
        bodies = [[call(1, False, [], []), call(1, True, [call(1, False, [], [])], []), call(1, False, [], [])], [GO]]
        self.same(bodies, [], 0, (3, 0, 1, 0, 0, 0), 4)
        bodies = [[call(1, False, [], []), call(2, False, [], [])], [call(2, False, [], [])], [GO]]
        self.same(bodies, [], 0, (2, 0, 1, 0, 0, 0), 2)

    def test_a_bit_between_two_calls_is_enough(self):
        bodies = [[("either", [], [call(0, False, [], [])])]]
        self.fault(bodies, 0, [1, 1], 2)
        bodies = [[("again", []), call(0, False, [], [])]]
        self.fault(bodies, 0, [], 0)
        self.fault(bodies, 0, [0, 0, 0], 3)
        self.fault(bodies, 0, [1, 1, 0, 1], 4)
        # The bit stands behind the call, so none is taken between the two calls.
        self.fault([[call(0, False, [], []), ("either", [], [])]], 0, [0, 0, 0, 0], -2)
        # The bit is taken in a call that has ended.
        bodies = [[call(1, False, [call(0, False, [], [])], [GO])], [("either", [], [("end", 1)])]]
        self.same(bodies, [0, 0, 1], 0, (1, 0, 1, 0, 0, 0), 1)
        self.fault(bodies, 0, [0, 0], 2)

    def test_an_inner_call_without_a_bit_since_an_outer_one(self):
        # Procedure 1 is called with a bit between, but then calls itself without one.
        bodies = [[("either", [], [call(1, False, [], [])])], [("either", [call(2, False, [], [])], [])],
                  [call(1, False, [], [])]]
        self.same(bodies, [1, 1], 0, HOME, 0)
        self.same(bodies, [1, 0, 1], 0, HOME, 0)
        self.fault(bodies, 0, [1, 0, 0], 3)
        bodies = [[("either", [], []), call(1, False, [], [])], [call(0, False, [], [])]]
        self.fault(bodies, 0, [1, 1, 1], 3)
        self.fault(bodies, 1, [1, 1, 1], 3)
        bodies = [[("either", [call(1, False, [], [])], [])], [call(0, False, [], []), call(1, False, [], [])]]
        self.fault(bodies, 1, [0, 1], 2)
        self.fault(bodies, 0, [0, 1], 2)

    def test_rule_4_a_bit_is_missing(self):
        self.fault([[("either", [], [])]], 0, [], 0)
        self.fault([[("again", [GO])]], 0, [], 0)
        self.fault([[("again", [GO])]], 0, [1, 1, 1], 3)
        self.fault(NESTED, 0, [1, 1, 1, 1], 4)
        self.fault([[("either", [], []), call(0, False, [], [])]], 0, [0, 1], 2)

    def test_rule_5_too_many_bits(self):
        self.fault([[]], 0, [0, 1, 0], 0)
        self.fault([[GO]], 0, [1], 0)
        self.fault(NESTED, 0, [1, 1, 0, 0, 1], 3)
        self.fault([[("end", 1), ("either", [], [])]], 0, [0], 0)
        self.fault([[("again", [])]], 0, [1, 1, 0, 0], 3)

    def test_all_lists_of_the_example(self):
        for bits in all_bits(6):
            if bits[-1:] == [0] and 0 not in bits[:-1]:
                self.same(NESTED, bits, 0, HOME, 2 * len(bits) - 2)
            else:
                self.fault(NESTED, 0, bits, bits.index(0) + 1 if 0 in bits else len(bits))


class MadeBooks(Checks):
    def test_all_short_lists_of_bits(self):
        runs = 0
        indexes = set()
        for seed in range(400):
            bodies = made_bodies(seed)
            book = Book(bodies)
            pen = PENS[seed % len(PENS)]
            for procedure in range(len(bodies)):
                for bits in all_bits(5):
                    wanted = answer(bodies, procedure, bits, pen)
                    if isinstance(wanted, int):
                        indexes.add(wanted)
                        with self.assertRaises(NoRun) as caught:
                            ran(book, procedure, bits, pen=pen)
                        self.assertEqual(caught.exception.index, wanted, (seed, procedure, bits))
                        continue
                    runs += 1
                    way, behind, length, matrix, pens = wanted
                    self.assertEqual(ran(book, procedure, bits, pen=pen), (way, behind, length))
                    self.assertEqual(run_matrix(book, procedure, bits), (way, matrix, length))
                    self.assertEqual(list(trace(book, procedure, bits, pen=pen)), pens)
            self.assertEqual(book.bodies(), bodies)
        # The books are worth their time only if there are many runs and all kinds of faults.
        self.assertGreater(runs, 1000)
        self.assertEqual(indexes, {-2, 0, 1, 2, 3, 4, 5})

    def test_a_list_behind_which_nothing_can_be_a_run(self):
        for seed in range(60):
            book = Book(made_bodies(seed))
            for bits in all_bits(4):
                try:
                    ran(book, 0, bits)
                except NoRun:
                    continue
                for more in [[0], [1], [0, 1]]:
                    self.fault(book.bodies(), 0, bits + more, len(bits))


class Pens(Checks):
    def test_pens_that_are_put_back_are_not_traced(self):
        book = Book([[GO, ("keep", [("go", 2), ("mark",)]), call(1, True, [("go", 5)], [])], [("turn", 1), ("go", 1)]])
        self.assertEqual(list(trace(book, 0, [])), [
            (1, 0, 1, 0, 0, 0), (3, 0, 1, 0, 0, 0), (3, 0, 1, 0, 3, 0), (1, 0, 0, 1, 3, 0), (1, 1, 0, 1, 3, 0),
            (6, 0, 1, 0, 3, 0)])
        self.assertEqual(list(trace(Book([[("keep", []), ("end", 1)]]), 0, [])), [])

    def test_commands_that_change_nothing_are_traced(self):
        book = Book([[("go", 0), ("scale", 1), ("keep", [("go", 0)])]])
        self.assertEqual(list(trace(book, 0, [])), [HOME] * 3)
        self.assertEqual(ran(book, 0, [])[2], 3)

    def test_trace_is_a_generator_of_tuples(self):
        pens = trace(Book([[GO, GO]]), 0, [])
        self.assertIsInstance(pens, types.GeneratorType)
        self.assertIs(iter(pens), pens)
        self.assertEqual(next(pens), (1, 0, 1, 0, 0, 0))
        self.assertEqual(next(pens), (2, 0, 1, 0, 0, 0))
        with self.assertRaises(StopIteration):
            next(pens)

    def test_trace_starts_from_the_pen(self):
        for pen in PENS:
            self.assertEqual(
                list(trace(Book([[("go", 3), ("exchange",)]]), 0, [], pen=pen)),
                [moved(pen, ("go", 3)), moved(moved(pen, ("go", 3)), ("exchange",))])

    def test_large_numbers(self):
        bodies = [[("again", [("scale", 3)]), GO]]
        self.same(bodies, [1] * 150 + [0], 0, (3 ** 150, 0, 3 ** 150, 0, 0, 0), 151)
        self.same(bodies, [0], 0, (2 * BIG, 1, BIG, 1, -BIG, 0), 1, start=(BIG, 0, BIG, 1, -BIG, 0))


class Errors(unittest.TestCase):
    BOOK = Book([[("either", [], [])], [GO]])

    def raised(self, error, *values, **named):
        """Check that the functions raise the error, trace only when it is asked."""
        with self.assertRaises(error):
            ran(self.BOOK, *values, **named)
        pens = trace(self.BOOK, *values, **named)
        with self.assertRaises(error):
            next(pens)
        if not named:
            with self.assertRaises(error):
                run_matrix(self.BOOK, *values)

    def test_procedures(self):
        for wrong in [*STRANGE, -1, 2, 3, BIG, -BIG, Space([]), "0", (0,)]:
            with self.subTest(procedure=wrong):
                self.raised(NoProcedure, wrong, [0])
                self.raised(NoProcedure, wrong, [])
                self.raised(NoProcedure, wrong, None)
                self.raised(NoProcedure, wrong, [0], pen=None)

    def test_pens(self):
        for wrong in [*NO_PENS, Space([]), (0, 0, 1, 0, 0, Space([]))]:
            with self.subTest(pen=wrong):
                self.raised(NoPen, 0, [0], pen=wrong)
                self.raised(NoPen, 1, [], pen=wrong)

    def test_bits_are_checked_ahead_of_the_pen(self):
        for wrong in [None, (0,), [2], [], [0, 0]]:
            for pen in [None, [0, 0, 1, 0, 0, 0], (True,) * 6]:
                self.raised(NoRun, 0, wrong, pen=pen)

    def test_procedures_are_checked_ahead_of_all(self):
        for wrong in [None, [2], [], [0, 0]]:
            self.raised(NoProcedure, 2, wrong, pen=None)

    def test_the_pen_is_named(self):
        with self.assertRaises(TypeError):
            ran(self.BOOK, 0, [0], HOME)
        with self.assertRaises(TypeError):
            trace(self.BOOK, 0, [0], HOME)


class Matrices(Checks):
    def test_commands_and_their_compositions(self):
        body = [("go", 3), ("turn", 1), ("mark",), ("aim", 2, -5), ("go", -1), ("exchange",), ("scale", -2)]
        matrix = IDENTITY
        for at, command in enumerate(body):
            matrix = composed(matrix, matrix_of(command))
            self.assertEqual(run_matrix(Book([body[:at + 1]]), 0, []), (0, matrix, at + 1))
        self.assertEqual(run_matrix(Book([[]]), 0, []), (0, IDENTITY, 0))

    def test_one_run_behind_another(self):
        bodies = [[("again", [("turn", 1), ("go", 2)])], [("either", [("mark",), ("go", 1)], [("scale", 2)])],
                  [call(0, False, [], []), call(1, False, [], [])]]
        book = Book(bodies)
        for one in [[0], [1, 0], [1, 1, 0], [1, 1, 1, 0]]:
            for other in [[0], [1]]:
                matrix = composed(run_matrix(book, 0, one)[1], run_matrix(book, 1, other)[1])
                self.assertEqual(run_matrix(book, 2, one + other)[1], matrix)

    def test_keeps_and_saved_calls_have_the_kept_matrix(self):
        body = [("go", 3), ("mark",), ("turn", 1), ("exchange",), ("go", 2), ("mark",)]
        inner = run_matrix(Book([body]), 0, [])[1]
        self.assertNotEqual(inner, kept_matrix(inner))
        self.assertEqual(run_matrix(Book([[("keep", body)]]), 0, []), (0, kept_matrix(inner), 6))
        self.assertEqual(run_matrix(Book([[call(1, True, [], [])], body]), 0, []), (0, kept_matrix(inner), 6))
        self.assertEqual(run_matrix(Book([[call(1, False, [], [])], body]), 0, []), (0, inner, 6))
        ahead, behind = ("aim", 1, 2), ("go", 4)
        matrix = composed(composed(matrix_of(ahead), kept_matrix(inner)), matrix_of(behind))
        self.assertEqual(run_matrix(Book([[ahead, ("keep", body), behind]]), 0, []), (0, matrix, 8))

    def test_the_matrix_gives_the_pen_behind_for_every_pen(self):
        for seed in range(100):
            book = Book(made_bodies(seed))
            for bits in all_bits(4):
                try:
                    way, matrix, length = run_matrix(book, 0, bits)
                except NoRun:
                    continue
                self.assertEqual(matrix[:7], [1, 0, 0, 0, 0, 0, 0])
                self.assertEqual([type(number) for number in matrix], [int] * 49)
                for pen in PENS:
                    self.assertEqual(ran(book, 0, bits, pen=pen), (way, applied(matrix, pen), length))


class Deep(Checks):
    def test_two_hundred_bits_of_one_recursion(self):
        self.same(NESTED, [1] * 199 + [0], 0, HOME, 398)
        self.fault(NESTED, 0, [1] * 200, 200)
        self.fault(NESTED, 0, [1] * 100 + [0] * 100, 101)

    def test_two_hundred_bits_of_three_procedures(self):
        # Three calls for each bit, each of them inside a keep of the last one.
        bodies = [
            [("either", [("mark",), ("end", 1)], [("keep", [GO, call(1, False, [], [("end", 1)])])])],
            [("keep", [GO, call(2, True, [], [("keep", [("end", 1)])])])],
            [("keep", [("turn", 1), ("keep", [call(0, False, [], [GO, ("end", 1)])])])],
        ]
        bits = [1] * 199 + [0]
        way, pen, length = ran(Book(bodies), 0, bits)
        self.assertEqual((way, length), (1, 4 * 199 + 1))
        self.assertEqual(pen[:4], HOME[:4])
        self.assertEqual(run_matrix(Book(bodies), 0, bits)[2], length)
        self.assertEqual(len(list(trace(Book(bodies), 0, bits))), length)
        self.fault(bodies, 0, [1] * 200, 200)

    def test_five_thousand_commands(self):
        bodies = [[("again", [GO] * 7 + [call(1, False, [], [])])], [GO] * 8]
        self.same(bodies, [1] * 199 + [0], 0, (15 * 199, 0, 1, 0, 0, 0), 15 * 199)
        bodies = [
            [("again", [call(1, False, [], []), call(1, True, [], []), call(1, False, [], [])]), ("mark",)],
            [GO] * 7 + [("keep", [GO])],
        ]
        self.same(bodies, [1] * 199 + [0], 0, (14 * 199, 0, 1, 0, 14 * 199, 0), 24 * 199 + 1)

    def test_lists_far_longer_than_functions_can_be_nested(self):
        many = 20000
        self.assertEqual(ran(Book(NESTED), 0, [1] * many + [0]), (0, HOME, 2 * many))
        self.fault(NESTED, 0, [1] * many, many)
        bodies = [[("either", [("end", 1)], [GO, call(0, True, [], [("mark",), ("end", 1)])])]]
        self.assertEqual(ran(Book(bodies), 0, [1] * many + [0]), (1, (1, 0, 1, 0, 1, 0), 2 * many))

    def test_many_statements_between_two_bits(self):
        many = [call(2, False, [], []) for _ in range(8)]
        bodies = [[("again", [call(1, False, [], []) for _ in range(8)])], many, [("keep", []) for _ in range(8)]]
        self.same(bodies, [1] * 50 + [0], 0, HOME, 0)


class Arguments(unittest.TestCase):
    def test_nothing_is_changed(self):
        for seed in range(60):
            book = Book(made_bodies(seed))
            for bits in [[], [0], [1], [1, 0], [0, 1, 1], [0, 2], [1, None]]:
                before = list(bits)
                for execute in [ran, run_matrix, lambda *values: list(trace(*values))]:
                    try:
                        execute(book, 0, bits)
                    except NoRun:
                        pass
                self.assertEqual(bits, before)
            self.assertEqual(book, Book(made_bodies(seed)))

    def test_each_matrix_is_a_new_list(self):
        book = Book([[], [GO]])
        for procedure in [0, 1]:
            one, other = run_matrix(book, procedure, []), run_matrix(book, procedure, [])
            self.assertEqual(one, other)
            self.assertEqual(len({id(each) for each in lists_in([one, other])}), 3)
            one[1].clear()
            self.assertEqual(run_matrix(book, procedure, []), other)
