"""Tests of penhome.tables: points 2 to 6 and 29 to 34."""

import random
import unittest

from bases import COUNTED, GREAT, MIXED, Echelon, canonical, made_rows, some_matrices, unit
from few import few_runs
from making import lists_in, made_bodies, rich_bodies
from penhome.books import Book
from penhome.errors import NoProcedure, NoRun, NoTable, NoWay
from penhome.matrices import composed, kept_matrix, matrix_of
from penhome.runs import run_matrix
from penhome.spaces import Space
from penhome.tables import basis_runs, body_space, table, table_fault
from rules import body_rows, closed, spaces, table_rows
from samples import BIG, STRANGE

IDENTITY = matrix_of(("go", 0))
GO, TURN, MARK = ("go", 1), ("turn", 1), ("mark",)
ZERO = Space([])
FULL = Space([unit(at) for at in range(49)])

# Three procedures of which the first two call the next one twice; the last has six choices: 2 ** 24 ways.
TWICE = [[("call", 1, False, [[], []])] * 2, [("call", 2, False, [[], []])] * 2]
TWENTY_FOUR = [*TWICE, [("either", [command], []) for command in [
    GO, TURN, ("scale", 2), MARK, ("exchange",), ("mirror",)]]]
MANY = [*TWICE, [
    ("again", [("either", [GO], [TURN])]), ("either", [("mirror",)], [("scale", 2)]),
    ("either", [MARK], [("exchange",)]), ("either", [], [])]]

# Procedures of which the first two call the next one eight times: runs of 384 bits, and of 512 commands.
EIGHT = [[("call", 1, False, [[], []])] * 8, [("call", 2, False, [[], []])] * 8]
LONG = [*EIGHT, [("either", [], [])] * 5 + [("either", [GO], [("go", 2)]), ("go", 1), ("scale", 3)]]
STRAIGHT = [*EIGHT, [("go", 1), ("scale", 3)] * 4]


def call(procedure, saved, zero, one):
    return ("call", procedure, saved, [zero, one])


def keys_of(bodies):
    return [(procedure, way) for procedure in range(len(bodies)) for way in (0, 1)]


def one(command):
    return Space([matrix_of(command)])


class Tables(unittest.TestCase):
    def same(self, bodies, wanted):
        with self.subTest(bodies=bodies):
            found = table(Book(bodies))
            self.assertIs(type(found), dict)
            self.assertEqual(sorted(found), keys_of(bodies))
            self.assertEqual({key: space.rows() for key, space in found.items()},
                             {key: Space(wanted.get(key, [])).rows() for key in keys_of(bodies)})

    def test_commands(self):
        self.same([[]], {(0, 0): [IDENTITY]})
        self.same([[GO, TURN]], {(0, 0): [composed(matrix_of(GO), matrix_of(TURN))]})
        self.same([[GO], [TURN], []], {(0, 0): [matrix_of(GO)], (1, 0): [matrix_of(TURN)], (2, 0): [IDENTITY]})

    def test_ends(self):
        self.same([[("end", 0)]], {(0, 0): [IDENTITY]})
        self.same([[GO, ("end", 1), TURN]], {(0, 1): [matrix_of(GO)]})
        self.same([[("either", [GO, ("end", 1)], [TURN]), MARK]],
                  {(0, 0): [composed(matrix_of(TURN), matrix_of(MARK))], (0, 1): [matrix_of(GO)]})
        self.same([[("keep", [GO, MARK, ("end", 1)])]],
                  {(0, 1): [kept_matrix(composed(matrix_of(GO), matrix_of(MARK)))]})

    def test_choices_and_repetitions(self):
        go = [matrix_of(("go", k)) for k in range(4)]
        self.same([[("either", [GO], [TURN])]], {(0, 0): [matrix_of(GO), matrix_of(TURN)]})
        self.same([[("again", [GO])]], {(0, 0): go})
        self.same([[("again", [])]], {(0, 0): [IDENTITY]})
        self.same([[("again", [GO, ("end", 1)])]], {(0, 0): [IDENTITY], (0, 1): [matrix_of(GO)]})
        turns = [matrix_of(("turn", n)) for n in (1, 2, 3)]
        self.same([[("again", [TURN])]], {(0, 0): [IDENTITY, *turns]})

    def test_calls(self):
        ways = [("either", [GO, ("end", 1)], [TURN])]
        self.same([[call(1, False, [MARK], [])], ways],
                  {(0, 0): [composed(matrix_of(TURN), matrix_of(MARK)), matrix_of(GO)],
                   (1, 0): [matrix_of(TURN)], (1, 1): [matrix_of(GO)]})
        self.same([[call(1, True, [("end", 1)], [MARK])], ways],
                  {(0, 0): [matrix_of(MARK)], (0, 1): [IDENTITY], (1, 0): [matrix_of(TURN)], (1, 1): [matrix_of(GO)]})

    def test_recursion(self):
        self.same([[("either", [], [GO, call(0, False, [], []), ("go", -1)])]], {(0, 0): [IDENTITY]})
        self.same([[("either", [], [TURN, call(0, False, [], []), TURN])]],
                  {(0, 0): [IDENTITY, matrix_of(("turn", 2))]})
        # Each procedure calls the other one, and turns its way around.
        turned = [("either", [("end", 1)], [GO, call(1, False, [("end", 1)], [])])]
        self.same([turned, [TURN, call(0, False, [("end", 1)], [])]], table_rows([turned, [
            TURN, call(0, False, [("end", 1)], [])]]))

    def test_keys_without_runs(self):
        self.same([[call(0, False, [], [])]], {})
        self.same([[GO, ("again", [call(0, True, [], []), ("end", 1)])]],
                  {(0, 0): [matrix_of(GO)], (0, 1): [matrix_of(GO)]})
        self.same([[call(0, False, [GO], [("end", 1)]), MARK]], {})
        self.same([[call(1, False, [GO], [TURN])], [call(0, False, [], [])], [("end", 1)]], {(2, 1): [IDENTITY]})
        self.same([[("either", [call(0, False, [GO], [("end", 1)])], [("end", 1)])]], {(0, 1): [IDENTITY]})
        self.same([[("keep", [call(0, False, [], []), ("end", 1)]), GO]], {})

    def test_made_books(self):
        for seed in range(40):
            for bodies in [made_bodies(seed), rich_bodies(seed)]:
                self.same(bodies, table_rows(bodies))

    def test_the_matrix_of_each_run_lies_in_the_space_of_its_key(self):
        for seed in range(80):
            bodies = rich_bodies(seed)
            found = table(Book(bodies))
            for procedure in range(len(bodies)):
                for _, way, _, matrix in few_runs(bodies, procedure, 7):
                    self.assertIn(matrix, found[procedure, way])

    def test_keys_without_runs_have_the_zero_space(self):
        empty = 0
        for seed in range(120):
            bodies = made_bodies(seed)
            for key, space in table(Book(bodies)).items():
                runs = [way for _, way, _, _ in few_runs(bodies, key[0], 6) if way == key[1]]
                self.assertTrue(len(space) > 0 or runs == [])
                empty += len(space) == 0
        self.assertGreater(empty, 50)

    def test_very_many_runs(self):
        for bodies in [MANY, TWENTY_FOUR]:
            book = Book(bodies)
            found = table(book)
            self.assertEqual(found, spaces(table_rows(bodies)))
            source = random.Random(3)
            for _ in range(20):
                bits = [source.randrange(2) for _ in range(200)]
                for procedure in range(3):
                    way, matrix, _ = run_matrix(book, procedure, self.run_at_the_start(book, procedure, bits))
                    self.assertIn(matrix, found[procedure, way])

    def run_at_the_start(self, book, procedure, bits):
        """Return the run with which the bits begin."""
        try:
            run_matrix(book, procedure, bits)
        except NoRun as error:
            return bits[:error.index]
        return bits

    def test_dimensions(self):
        pairs = [(GO, TURN), (("aim", 1, 2), ("place", 3, -4)), (MARK, ("exchange",)), (("mirror",), ("scale", 2))]
        wide = [[("again", [call(1, False, [], [])])], [("either", [first], [second]) for first, second in pairs]]
        self.assertEqual(len(table(Book(wide))[0, 0]), 23)
        for seed in range(200):
            for space in table(Book(rich_bodies(seed))).values():
                self.assertLessEqual(len(space), 23)
        for bodies in [MANY, TWENTY_FOUR, LONG]:
            self.assertTrue(all(len(space) <= 23 for space in table(Book(bodies)).values()))

    def test_tables_are_new(self):
        book = Book(TWENTY_FOUR)
        first, second = table(book), table(book)
        right = {key: space.rows() for key, space in first.items()}
        self.assertIsNot(first, second)
        for space in first.values():
            for row in space.rows():
                row.clear()
        first.clear()
        self.assertEqual({key: space.rows() for key, space in second.items()}, right)
        self.assertEqual(table(book), second)
        self.assertEqual(book, Book(TWENTY_FOUR))


def made_table(seed, bodies):
    """Make a table of any spaces, not closed as a rule."""
    found = {}
    for at, key in enumerate(keys_of(bodies)):
        rows = made_rows(1000 * seed + at)
        found[key] = Space(rows[:(seed + at) % 4])
    return found


class BodySpaces(unittest.TestCase):
    # Matrices with the first number 0, with others, and combinations of runs.
    SOME = [
        ZERO, FULL, Space([IDENTITY]), Space([unit(0)]), Space([unit(24)]), Space([list(COUNTED)]), Space([list(GREAT)]),
        Space([list(MIXED), list(COUNTED)]), Space([matrix_of(GO), matrix_of(TURN)]),
        Space([[a - b for a, b in zip(matrix_of(GO), matrix_of(TURN))]]),
        Space([[3 * number for number in matrix_of(MARK)], unit(48)]), Space([unit(7 * at) for at in range(7)]),
    ]

    def pairs(self):
        return [(first, second) for first in self.SOME for second in self.SOME[:6] + self.SOME[7:9]]

    def body(self, body, first, second):
        """Return both body spaces of procedure 0, where procedure 1 has the two spaces."""
        book = Book([body, []])
        given = {(0, 0): ZERO, (0, 1): ZERO, (1, 0): first, (1, 1): second}
        found = [body_space(book, given, 0, way) for way in (0, 1)]
        self.assertTrue(all(isinstance(space, Space) for space in found))
        return found

    def same(self, body, first, second, zero, one):
        with self.subTest(body=body, first=first.rows(), second=second.rows()):
            self.assertEqual(self.body(body, first, second), [zero, one])

    def test_lists_and_commands(self):
        go, turn = one(GO), one(TURN)
        self.same([], ZERO, ZERO, Space([IDENTITY]), ZERO)
        self.same([GO], ZERO, ZERO, go, ZERO)
        self.same([GO, TURN], FULL, FULL, go * turn, ZERO)
        self.same([TURN, GO], ZERO, ZERO, turn * go, ZERO)

    def test_ends(self):
        go, turn, mark = one(GO), one(TURN), one(MARK)
        self.same([("end", 0)], ZERO, ZERO, Space([IDENTITY]), ZERO)
        self.same([GO, ("end", 1), TURN, ("end", 0)], ZERO, ZERO, ZERO, go)
        self.same([GO, ("either", [TURN, ("end", 0)], []), MARK], ZERO, ZERO, go * turn + go * mark, ZERO)
        self.same([GO, ("either", [TURN, ("end", 1)], []), MARK], ZERO, ZERO, go * mark, go * turn)

    def test_calls(self):
        go, turn = one(GO), one(TURN)
        for first, second in self.pairs():
            self.same([call(1, False, [], [])], first, second, first + second, ZERO)
            self.same([call(1, True, [], [])], first, second, first.kept() + second.kept(), ZERO)
            self.same([GO, call(1, False, [], [("end", 1)])], first, second, go * first, go * second)
            self.same([call(1, True, [("end", 1)], [GO]), TURN], first, second, second.kept() * go * turn, first.kept())
            self.same([call(1, False, [GO], [TURN])], first, second, first * go + second * turn, ZERO)

    def test_a_call_behind_a_call(self):
        for first, second in self.pairs():
            body = [call(1, False, [], [("end", 1)]), call(1, True, [("end", 1)], [])]
            self.same(body, first, second, first * second.kept(), second + first * first.kept())

    def test_keep(self):
        go, mark = one(GO), one(MARK)
        for first, second in self.pairs():
            self.same([("keep", [call(1, False, [], [])])], first, second, (first + second).kept(), ZERO)
            self.same([GO, ("keep", [MARK, call(1, False, [], [("end", 1)])])], first, second,
                      go * (mark * first).kept(), go * (mark * second).kept())
            self.same([("keep", [("keep", [call(1, False, [("end", 0)], [("end", 1)])]), GO])], first, second,
                      first.kept(), second.kept())

    def test_either(self):
        for first, second in self.pairs():
            body = [("either", [call(1, False, [], [("end", 1)])], [GO, call(1, False, [("end", 1)], [])])]
            self.same(body, first, second, first + one(GO) * second, second + one(GO) * first)

    def test_again_is_the_least_space(self):
        body = [("again", [call(1, False, [], [("end", 1)])])]
        for first in self.SOME:
            least = self.least(first) if first != FULL else FULL
            for second in [ZERO, Space([list(COUNTED)]), Space([matrix_of(GO), matrix_of(TURN)])]:
                zero, ended = self.body(body, first, second)
                self.assertEqual(zero, least)
                self.assertEqual(ended, zero * second)
            self.assertIn(IDENTITY, zero)
            self.assertEqual(zero * first + zero, zero)

    def least(self, space):
        """Add the compositions with each matrix of the space, until nothing is new."""
        echelon, rows, new = Echelon(), [], [IDENTITY]
        while new:
            new = [row for row in new if echelon.add(row)]
            rows += new
            new = [composed(row, other) for row in new for other in space.rows()]
        return Space(rows)

    def test_again_whose_block_cannot_be_passed_through(self):
        identity = Space([IDENTITY])
        self.same([("again", [("end", 1)])], FULL, FULL, identity, identity)
        self.same([("again", [GO, ("end", 0)]), TURN], FULL, FULL, one(TURN) + one(GO), ZERO)
        for second in self.SOME:
            self.same([TURN, ("again", [call(1, False, [], [("end", 1)])])], ZERO, second, one(TURN), one(TURN) * second)

    def test_again_with_powers_that_come_late(self):
        # The matrix takes each unit vector to the next one, so its powers are seven spaces.
        shift = [int(j == i - 1) for i in range(7) for j in range(7)]
        zero, _ = self.body([("again", [call(1, False, [], [])])], Space([shift]), ZERO)
        self.assertEqual(len(zero), 7)
        zero, _ = self.body([("again", [call(1, False, [], [])])], Space([shift, shift[::-1]]), ZERO)
        self.assertEqual(zero, self.least(Space([shift, shift[::-1]])))

    def test_made_books_and_tables(self):
        for seed in range(40):
            bodies = rich_bodies(seed) if seed % 2 else made_bodies(seed)
            given = made_table(seed, bodies)
            rows = {key: space.rows() for key, space in given.items()}
            for procedure, body in enumerate(bodies):
                found = [body_space(Book(bodies), given, procedure, way).rows() for way in (0, 1)]
                self.assertEqual(found, body_rows(rows, body))
            self.assertEqual({key: space.rows() for key, space in given.items()}, rows)

    def test_the_body_spaces_of_the_table_are_its_spaces(self):
        for seed in range(60):
            book = Book(rich_bodies(seed))
            found = table(book)
            for key in found:
                self.assertEqual(body_space(book, found, *key), found[key])

    def test_large_spaces(self):
        book = Book(MANY)
        given = {key: FULL for key in keys_of(MANY)}
        self.assertEqual(body_space(book, given, 0, 0), FULL)
        source = random.Random(8)
        dense = Space([some_matrices(source, "small") for _ in range(20)])
        found = body_space(book, {key: dense for key in keys_of(MANY)}, 0, 0)
        # Compositions of dense matrices are independent as long as there is room.
        self.assertEqual(found, FULL)


class WrongArguments(unittest.TestCase):
    BOOK = Book([[GO], [call(0, False, [], [])]])

    def no_tables(self):
        right = table(self.BOOK)
        keys = keys_of([[], []])
        found = [None, True, 0, 1, "", "table", [], (), {}, {1: 2}, [right], (right,), list(right.items()), ZERO, keys]
        for key in keys:
            found.append({other: right[other] for other in keys if other != key})
            for wrong in [None, True, 0, [], right[key].rows(), (right[key],), [right[key]], {}, "space"]:
                found.append({**right, key: wrong})
        for more in [(2, 0), (0, 2), (-1, 0), (0,), (0, 0, 0), 0, "a", None, ((0, 0),), (0, "0")]:
            found.append({**right, more: right[0, 0]})
            found.append({**{key: right[key] for key in keys[1:]}, more: right[0, 0]})
        return found

    def test_no_table(self):
        for wrong in self.no_tables():
            with self.subTest(wrong=wrong):
                self.assertEqual(table_fault(self.BOOK, wrong), ("form",))
                for procedure, way in [(0, 0), (None, None), (5, 0), (0, 5)]:
                    with self.assertRaises(NoTable):
                        body_space(self.BOOK, wrong, procedure, way)

    def test_keys_are_compared_as_python_does(self):
        right = table(self.BOOK)
        other = {(bool(procedure), bool(way)): space for (procedure, way), space in right.items()}
        self.assertEqual(table_fault(self.BOOK, other), None)
        self.assertEqual(body_space(self.BOOK, other, 1, 0), right[1, 0])
        mixed = {(False, 0): right[0, 0], (0, True): right[0, 1], (1, 0): right[1, 0], (True, 1): right[1, 1]}
        self.assertEqual(table_fault(self.BOOK, mixed), None)
        self.assertEqual(list(mixed)[0], (False, 0))

    def test_no_procedure(self):
        right = table(self.BOOK)
        for wrong in [*STRANGE, 2, -1, BIG, -BIG, ZERO, (0,), [0]]:
            with self.subTest(wrong=wrong):
                for way in [0, 1, 2, None]:
                    with self.assertRaises(NoProcedure):
                        body_space(self.BOOK, right, wrong, way)
                    with self.assertRaises(NoProcedure):
                        basis_runs(self.BOOK, wrong, way)

    def test_no_way(self):
        right = table(self.BOOK)
        for wrong in [*STRANGE, 2, -1, BIG, ZERO, (0,), [0]]:
            with self.subTest(wrong=wrong):
                with self.assertRaises(NoWay):
                    body_space(self.BOOK, right, 1, wrong)
                with self.assertRaises(NoWay):
                    basis_runs(self.BOOK, 1, wrong)


class TableFaults(unittest.TestCase):
    def test_the_table_is_closed(self):
        for seed in range(80):
            for bodies in [made_bodies(seed), rich_bodies(seed)]:
                book = Book(bodies)
                self.assertIsNone(table_fault(book, table(book)))
        for bodies in [MANY, TWENTY_FOUR, LONG]:
            self.assertIsNone(table_fault(Book(bodies), table(Book(bodies))))

    def test_greater_closed_tables(self):
        for seed in range(12):
            bodies = rich_bodies(seed)
            book = Book(bodies)
            rows = {key: space.rows() for key, space in table(book).items()}
            key = keys_of(bodies)[seed % len(rows)]
            rows[key] = canonical([*rows[key], matrix_of(("turn", 1 + seed % 3))])
            greater = spaces(closed(bodies, rows))
            self.assertIsNone(table_fault(book, greater))
            for key, space in table(book).items():
                self.assertEqual(space + greater[key], greater[key])
        for bodies in [MANY, rich_bodies(1), [[]]]:
            self.assertIsNone(table_fault(Book(bodies), {key: FULL for key in keys_of(bodies)}))

    def test_the_first_key_that_is_not_closed(self):
        bodies = [[("either", [GO], [TURN, ("end", 1)])], [("either", [], [call(0, False, [], [("end", 1)])])], []]
        book = Book(bodies)
        right = table(book)
        for key in [(0, 0), (0, 1), (1, 0), (1, 1), (2, 0)]:
            self.assertEqual(table_fault(book, {**right, key: ZERO}), ("closed", *key))
        self.assertEqual(table_fault(book, {key: ZERO for key in right}), ("closed", 0, 0))
        # What lies behind the first fault has no meaning, nor has the order in the dict.
        self.assertEqual(table_fault(book, {**{key: ZERO for key in list(right)[::-1]}, (0, 0): right[0, 0]}),
                         ("closed", 0, 1))
        self.assertEqual(table_fault(book, {**right, (1, 0): ZERO, (2, 0): ZERO}), ("closed", 1, 0))
        self.assertEqual(table_fault(book, {**right, (2, 1): FULL}), None)
        # A greater space of a called procedure asks for one of the caller.
        self.assertEqual(table_fault(book, {**right, (0, 1): FULL}), ("closed", 1, 1))
        fault = table_fault(book, {**right, (1, 1): ZERO})
        self.assertEqual([type(item) for item in (fault, *fault)], [tuple, str, int, int])

    def test_made_tables(self):
        faults = 0
        for seed in range(24):
            bodies = rich_bodies(seed)
            given = made_table(seed, bodies)
            rows = {key: space.rows() for key, space in given.items()}
            wanted = None
            for procedure, way in keys_of(bodies)[::-1]:
                if len(canonical([*rows[procedure, way], *body_rows(rows, bodies[procedure])[way]])) > len(
                        rows[procedure, way]):
                    wanted = ("closed", procedure, way)
            self.assertEqual(table_fault(Book(bodies), given), wanted)
            faults += wanted is not None
        self.assertGreater(faults, 8)


class BasisRuns(unittest.TestCase):
    def check(self, bodies, most):
        """Check the runs of each key; those of few bits show that the lengths are least."""
        book = Book(bodies)
        right = table(book)
        for procedure in range(len(bodies)):
            few = few_runs(bodies, procedure, most)
            for way in (0, 1):
                runs = basis_runs(book, procedure, way)
                told = [run_matrix(book, procedure, bits) for bits in runs]
                self.assertEqual([ended for ended, _, _ in told], [way] * len(runs))
                rows = [matrix for _, matrix, _ in told]
                lengths = [length for _, _, length in told]
                self.assertEqual(Space(rows), right[procedure, way])
                self.assertEqual(len(rows), len(right[procedure, way]))
                self.assertEqual(lengths, sorted(lengths))
                self.are_least(few, way, rows, lengths)

    def are_least(self, few, way, rows, lengths):
        upto = {length: Space([row for row, other in zip(rows, lengths) if other <= length])
                for length in {run[2] for run in few}}
        for bits, ended, length, matrix in few:
            if ended == way:
                self.assertIn(matrix, upto[length], bits)

    def test_by_hand(self):
        book = Book([[("either", [GO, GO], [TURN])], [("again", [GO])], [("either", [], [("end", 1)])]])
        self.assertEqual(basis_runs(book, 0, 0), [[1], [0]])
        self.assertEqual(basis_runs(book, 0, 1), [])
        self.assertEqual(basis_runs(book, 1, 0), [[0], [1, 0]])
        self.assertEqual(basis_runs(book, 2, 0), [[0]])
        self.assertEqual(basis_runs(book, 2, 1), [[1]])
        self.assertEqual(basis_runs(Book([[]]), 0, 0), [[]])

    def test_keys_without_runs(self):
        self.assertEqual(basis_runs(Book([[call(0, False, [], [])]]), 0, 0), [])
        self.assertEqual(basis_runs(Book([[call(0, False, [], [])]]), 0, 1), [])
        self.assertEqual(basis_runs(Book([[("end", 1)]]), 0, 0), [])

    def test_made_books(self):
        for seed in range(100):
            self.check(rich_bodies(seed), 7)
        for seed in range(30):
            self.check(made_bodies(seed), 7)

    def test_more_bits(self):
        for bodies in [
                [[("again", [("either", [GO], [TURN])])]],
                [[("again", [("either", [GO, MARK], [TURN, GO])]), ("keep", [("again", [("exchange",)])])]],
                [[("either", [("either", [GO], [MARK, ("end", 1)])], [call(0, False, [TURN], [call(0, True, [], [])])])]],
                [[call(1, False, [call(1, True, [], [GO])], [])],
                 [("either", [("scale", 2)], [("aim", 1, 2), ("either", [], [("end", 1)])])]],
                [[("again", [("go", 3), ("go", -3), ("go", 1)]), ("again", [GO])]],
        ]:
            self.check(bodies, 10)

    def test_a_longer_run_of_fewer_bits(self):
        # The run of two bits is the shorter one, and all runs lie in the space of two.
        body = [("either", [("go", 1), ("go", 1)], [("either", [("go", 2)], [("go", 5)])])]
        found = basis_runs(Book([body]), 0, 0)
        self.assertEqual([len(bits) for bits in found], [2, 2])
        self.check([body], 3)

    def test_a_piece_that_does_not_matter_alone(self):
        # Place and heading are put back, so that only the runs with a mark count.
        self.check([[("keep", [("again", [("either", [GO], [TURN])]), ("either", [], [MARK])])]], 10)
        self.check([[call(1, True, [], [])], [("again", [("either", [GO], [TURN])]), ("either", [], [MARK])]], 10)

    def test_long_runs(self):
        book = Book(LONG)
        for bits in basis_runs(book, 0, 0):
            self.assertEqual((len(bits), run_matrix(book, 0, bits)[2]), (384, 192))
        self.check(LONG, 0)
        book = Book(STRAIGHT)
        self.assertEqual(basis_runs(book, 0, 0), [[]])
        self.assertEqual(run_matrix(book, 0, [])[2], 512)
        self.check(STRAIGHT, 0)

    def test_long_runs_of_many_matrices(self):
        for last in [
                [("either", [GO], [TURN])] * 4,
                [("either", [("go", 1)] * 2, [("turn", 1)] * 2), ("go", 1), ("either", [MARK], [("scale", 3)])],
                [("keep", [("either", [GO], [MARK])]), ("either", [TURN, ("end", 1)], [("scale", 3)])],
        ]:
            self.check([*EIGHT, last], 0)

    def test_runs_through_deep_recursion(self):
        deep = [[("either", [], [GO, call(0, False, [], []), ("scale", 2)])]]
        self.check(deep, 12)
        # Each run of procedure 0 is a chain of calls, and the mark is set at its end alone.
        chain = [[("either", [MARK], [GO, TURN, call(0, False, [], [("end", 1)])])],
                 [call(0, False, [], []), call(0, True, [], [])]]
        self.check(chain, 10)
        both = [[("either", [GO], [call(1, False, [TURN], [MARK])])],
                [("either", [call(0, False, [], []), ("scale", 2)], [call(0, True, [], []), ("end", 1)])]]
        self.check(both, 10)

    def test_very_many_runs(self):
        self.check(MANY, 5)
        self.check(TWENTY_FOUR, 6)

    def test_runs_are_new(self):
        book = Book(rich_bodies(4))
        for key in keys_of(rich_bodies(4)):
            if key[0] < len(book):
                first = basis_runs(book, *key)
                right = [list(bits) for bits in first]
                found = lists_in([first, basis_runs(book, *key)])
                self.assertEqual(len({id(each) for each in found}), len(found))
                for bits in first:
                    bits.clear()
                self.assertEqual(basis_runs(book, *key), right)


if __name__ == "__main__":
    unittest.main()
