"""Tests of penhome.algebra: points 2 to 6 and 45 to 47."""

import copy
import unittest
from itertools import product

from few import IDENTITY, breaks, least_runs, least_sum
from making import lists_in, made_bodies, rich_bodies
from penhome.algebra import breaking_round, equations_of, rounds
from penhome.books import Book
from penhome.equations import decide
from penhome.errors import NoCount, NoProcedure, NoVariables, NoWay
from penhome.matrices import composed
from penhome.runs import ran, run_matrix
from penhome.spaces import Space
from samples import BIG, STRANGE

GO, TURN, MARK = ("go", 1), ("turn", 1), ("mark",)
ZERO = Space([])
FOREVER = ("call", 0, False, [[], []])

OF_ONE = [([], [0])]
OF_TWO = [
    ([], [0, 1]), ([], [1, 0]), ([0], [0, 1]), ([0], [1]), ([0], [1, 0]), ([0, 1], [1]), ([0, 1], [1, 0]), ([1], [1, 0])]


def keys_of(book):
    return [(procedure, way) for procedure in range(len(book)) for way in (0, 1)]


class EquationsOf(unittest.TestCase):
    def check(self, book, variables):
        """Ask for each candidate alone."""
        candidates = OF_ONE if len(variables) == 1 else OF_TWO
        wanted = [sides for sides in candidates if decide(book, (variables, *sides, [0, 1, 2]))[0] == "holds"]
        self.assertEqual(equations_of(book, variables), wanted)
        return len(wanted)

    def test_the_candidates_are_all_there_are(self):
        sides = [[], [0], [0, 1], [1], [1, 0]]
        wanted = [(left, right) for left in sides for right in sides if left < right and {*left, *right} == {0, 1}]
        self.assertEqual(OF_TWO, sorted(wanted))

    def test_one_variable(self):
        self.assertEqual(equations_of(Book([[]]), [(0, 0)]), [([], [0])])
        self.assertEqual(equations_of(Book([[GO]]), [(0, 0)]), [])
        self.assertEqual(equations_of(Book([[MARK]]), [(0, 0)]), [])
        self.assertEqual(equations_of(Book([[("exchange",)] * 2]), [(0, 0)]), [([], [0])])
        self.assertEqual(equations_of(Book([[("either", [], [GO])]]), [(0, 0)]), [])

    def test_two_variables(self):
        book = Book([[GO], [("go", -1)], [TURN]])
        self.assertEqual(equations_of(book, [(0, 0), (1, 0)]), [([], [0, 1]), ([], [1, 0]), ([0, 1], [1, 0])])
        self.assertEqual(equations_of(book, [(0, 0), (2, 0)]), [])
        book = Book([[], [("place", 1, 1)], [("aim", 1, 0), ("place", 1, 1), MARK]])
        self.assertEqual(equations_of(book, [(0, 0), (1, 0)]), [([0, 1], [1]), ([0, 1], [1, 0]), ([1], [1, 0])])
        self.assertEqual(equations_of(book, [(1, 0), (0, 0)]), [([0], [0, 1]), ([0], [1, 0]), ([0, 1], [1, 0])])
        self.assertEqual(equations_of(book, [(1, 0), (2, 0)]), [([0, 1], [1]), ([0, 1], [1, 0]), ([1], [1, 0])])
        self.assertEqual(equations_of(book, [(0, 0), (0, 0)]), OF_TWO)

    def test_equal_keys(self):
        book = Book([[("exchange",)], [("place", 1, 1)], [("either", [GO], [("go", 2)])]])
        keys = [(0, 0), (0, 0)]
        self.assertEqual(equations_of(book, keys), [([], [0, 1]), ([], [1, 0]), ([0], [1]), ([0, 1], [1, 0])])
        keys = [(1, 0), (1, 0)]
        self.assertEqual(equations_of(book, keys), OF_TWO[2:])
        self.assertEqual(equations_of(book, [(2, 0), (2, 0)]), [([0, 1], [1, 0])])

    def test_keys_without_runs(self):
        book = Book([[FOREVER], [GO]])
        self.assertEqual(equations_of(book, [(0, 0)]), OF_ONE)
        for keys in [[(0, 0), (1, 0)], [(1, 0), (0, 1)], [(1, 1), (1, 0)], [(0, 0), (0, 0)]]:
            self.assertEqual(equations_of(book, keys), OF_TWO)

    def test_made_books(self):
        found = 0
        for seed in range(16):
            book = Book(rich_bodies(seed) if seed % 2 else made_bodies(seed))
            for key in keys_of(book):
                self.check(book, [key])
            for keys in product(keys_of(book), repeat=2):
                found += 0 < self.check(book, list(keys)) < len(OF_TWO)
        self.assertGreater(found, 15)

    def test_no_variables(self):
        book = Book([[GO], []])
        key = (0, 0)
        for wrong in [
                *STRANGE, 0, BIG, ZERO, [], [key] * 3, (key,), (key, key), key, {key: 1}, [list(key)], [key, [0, 0]],
                [(2, 0)], [key, (2, 0)], [(-1, 0)], [(0, 2)], [(0, -1)], [(True, 0)], [(0, True)], [(False, 0)],
                [key, (0, False)], [(0,)], [(0, 0, 0)], [()], [None], [0, 0], ["00"], [(None, 0)], [("0", 0)], [ZERO],
                [(BIG, 0)], [(0, [0])], [((0, 0),)]]:
            with self.subTest(wrong=wrong):
                with self.assertRaises(NoVariables):
                    equations_of(book, wrong)

    def test_new_lists(self):
        book = Book([[], []])
        keys = [(0, 0), (1, 0)]
        first, second = equations_of(book, keys), equations_of(book, keys)
        found = lists_in([first, second, keys])
        self.assertEqual(len({id(each) for each in found}), len(found))
        for each in lists_in(first):
            each.append(5)
        self.assertEqual(equations_of(book, keys), OF_TWO)
        self.assertEqual(keys, [(0, 0), (1, 0)])
        for each in lists_in(equations_of(book, [(0, 0)])):
            each.clear()
        self.assertEqual(equations_of(book, [(0, 0)]), OF_ONE)


class Rounds(unittest.TestCase):
    def test_the_examples_of_the_document(self):
        self.assertEqual(rounds(Book([[GO, TURN]]), 0, 0), 4)
        self.assertEqual(rounds(Book([[("exchange",)]]), 0, 0), 2)
        self.assertIsNone(rounds(Book([[("either", [GO, TURN], [("go", 2), TURN])]]), 0, 0))

    def test_results(self):
        for body, wanted in [
                ([], 1), ([GO, ("go", -1)], 1), ([TURN] * 4, 1), ([("mirror",)] * 2, 1), ([TURN], 4), ([("turn", 3)], 4),
                ([("turn", 2)], 2), ([("mirror",)], 2), ([("scale", -1)], 2), ([("scale", -1), GO], 2), ([GO], None),
                ([("scale", 2)], None), ([("scale", 0)], None), ([MARK], None), ([("return",)], None),
                ([("place", 0, 0)], None), ([("exchange",), TURN], 4), ([("exchange",), ("mirror",)], 2),
                ([GO, ("exchange",)], None), ([TURN, ("mirror",)], 2), ([GO, TURN, ("exchange",)], 4),
                ([("keep", [GO, TURN])], 1), ([("keep", [GO, MARK])], None)]:
            with self.subTest(body=body):
                self.assertEqual(rounds(Book([body]), 0, 0), wanted)

    def test_several_runs_of_one_matrix(self):
        self.assertEqual(rounds(Book([[("either", [TURN], [("turn", 2), ("turn", 3)])]]), 0, 0), 4)
        self.assertEqual(rounds(Book([[("either", [TURN], [("turn", 2), ("turn", 1)])]]), 0, 0), None)
        self.assertEqual(rounds(Book([[("again", [("mirror",), ("mirror",)])]]), 0, 0), 1)
        self.assertIsNone(rounds(Book([[("again", [("mirror",)])]]), 0, 0))

    def test_ways(self):
        book = Book([[("either", [TURN, ("end", 1)], [("mirror",)])], [("end", 1)]])
        self.assertEqual([rounds(book, *key) for key in keys_of(book)], [2, 4, 1, 1])

    def test_without_runs(self):
        book = Book([[FOREVER], []])
        self.assertEqual([rounds(book, *key) for key in keys_of(book)], [1, 1, 1, 1])

    def test_made_books(self):
        found = {1: 0, 2: 0, 4: 0, None: 0}
        for seed in range(90):
            book = Book(rich_bodies(seed) if seed % 3 else made_bodies(seed))
            for key in keys_of(book):
                told = rounds(book, *key)
                found[told] += 1
                runs = least_runs(book.bodies(), key, 6)
                comes = [many for many in (1, 2, 3, 4) if self.come_round(runs, many)]
                if told is None:
                    for many in (1, 2, 3, 4):
                        self.assertIsNotNone(breaking_round(book, *key, count=many))
                else:
                    self.assertEqual(comes[0], told) if runs else self.assertEqual(told, 1)
        self.assertTrue(all(found[told] > 0 for told in (1, 2, None)), found)

    def come_round(self, runs, many):
        matrices = [run[2] for run in runs[:4]]
        return all(self.total(choice) == IDENTITY for choice in product(matrices, repeat=many))

    def total(self, matrices):
        total = IDENTITY
        for matrix in matrices:
            total = composed(total, matrix)
        return total


class BreakingRounds(unittest.TestCase):
    def check(self, book, key, count, most):
        found = breaking_round(book, *key, count=count)
        keys = [key] * count
        home = (keys, list(range(count)), [], [0, 1, 2])
        lists = [least_runs(book.bodies(), key, most)] * count
        least = least_sum([runs[:5] for runs in lists], home)
        if found is None:
            self.assertIsNone(least)
            self.assertTrue(lists[0] == [] or count % rounds(book, *key) == 0)
        else:
            self.assertEqual((type(found), len(found)), (list, count))
            told = [ran(book, key[0], bits) for bits in found]
            self.assertEqual([way for way, _, _ in told], [key[1]] * count)
            self.assertTrue(breaks(book, home, found))
            if least is not None:
                self.assertLessEqual(sum(length for _, _, length in told), least)
        return found

    def test_the_example_of_the_document(self):
        book = Book([[("either", [GO, TURN], [("go", 2), TURN])]])
        self.assertEqual(sorted(breaking_round(book, 0, 0, count=4)), [[0], [0], [0], [1]])
        for count in (1, 2, 3, 5, 6):
            self.check(book, (0, 0), count, 1)

    def test_each_count(self):
        for body in [[GO, TURN], [("exchange",)], [], [GO], [("either", [], [TURN])], [("again", [GO])],
                     [("either", [TURN], [("turn", 3), ("scale", -1)])], [("either", [TURN], [("mirror",), GO, MARK])],
                     [("either", [("turn", 2), ("exchange",)], [TURN, ("exchange",), TURN])], [FOREVER]]:
            for count in range(1, 7):
                self.check(Book([body]), (0, 0), count, 4)

    def test_one_matrix(self):
        book = Book([[GO, TURN]])
        self.assertEqual([breaking_round(book, 0, 0, count=count) for count in range(1, 7)],
                         [[[]], [[]] * 2, [[]] * 3, None, [[]] * 5, [[]] * 6])
        book = Book([[("exchange",)]])
        self.assertEqual([breaking_round(book, 0, 0, count=count) for count in range(1, 7)],
                         [[[]], None, [[]] * 3, None, [[]] * 5, None])

    def test_a_run_that_occurs_several_times_counts_each_time(self):
        # Three short runs come round, so one of the long ones is needed, and one alone.
        book = Book([[("either", [], [("either", [GO] * 3, [TURN, MARK])])]])
        for count in range(1, 7):
            found = self.check(book, (0, 0), count, 2)
            self.assertEqual(sorted(found), [[0]] * (count - 1) + [[1, 1]])

    def test_without_runs(self):
        book = Book([[FOREVER], []])
        for count in range(1, 7):
            self.assertIsNone(breaking_round(book, 0, 0, count=count))
            self.assertIsNone(breaking_round(book, 1, 1, count=count))
            self.assertIsNone(breaking_round(book, 1, 0, count=count))

    def test_made_books(self):
        found = 0
        for seed in range(32):
            book = Book(rich_bodies(seed) if seed % 3 else made_bodies(seed))
            for key in keys_of(book):
                for count in (1, 2, 3, 4, 6):
                    found += self.check(book, key, count, 5 if count < 4 else 3) is not None
        self.assertGreater(found, 100)

    def test_the_lists_are_lists_of_their_own(self):
        book = Book([[("either", [], [GO])]])
        for count in range(1, 7):
            first, second = breaking_round(book, 0, 0, count=count), breaking_round(book, 0, 0, count=count)
            found = lists_in([first, second])
            self.assertEqual(len(found), 2 * count + 3)
            self.assertEqual(len({id(each) for each in found}), len(found))
            for each in lists_in(first):
                each.append(1)
            self.assertEqual(breaking_round(book, 0, 0, count=count), second)

    def test_long_runs(self):
        eight = [[("call", 1, False, [[], []])] * 8, [("call", 2, False, [[], []])] * 8]
        book = Book([*eight, [("either", [], [])] * 5 + [("either", [TURN], [("go", 2)])]])
        for count in range(1, 7):
            found = breaking_round(book, 0, 0, count=count)
            self.assertEqual([len(bits) for bits in found], [384] * count)
            total = IDENTITY
            for bits in found:
                total = composed(total, run_matrix(book, 0, bits)[1])
            self.assertNotEqual(total, IDENTITY)


class WrongArguments(unittest.TestCase):
    BOOK = Book([[GO], [FOREVER]])

    def test_no_procedure(self):
        for wrong in [*STRANGE, 2, -1, BIG, ZERO, (0,), [0]]:
            for way, count in [(0, 1), (None, None), (5, 9)]:
                with self.assertRaises(NoProcedure):
                    rounds(self.BOOK, wrong, way)
                with self.assertRaises(NoProcedure):
                    breaking_round(self.BOOK, wrong, way, count=count)

    def test_no_way(self):
        for wrong in [*STRANGE, 2, -1, BIG, ZERO, (0,), [0]]:
            with self.assertRaises(NoWay):
                rounds(self.BOOK, 1, wrong)
            for count in [1, 0, None]:
                with self.assertRaises(NoWay):
                    breaking_round(self.BOOK, 1, wrong, count=count)

    def test_no_count(self):
        for wrong in [*STRANGE, 0, 7, -1, BIG, -BIG, ZERO, (1,), [1], "2"]:
            for key in keys_of(self.BOOK):
                with self.assertRaises(NoCount):
                    breaking_round(self.BOOK, *key, count=wrong)

    def test_the_count_is_passed_by_keyword_alone(self):
        with self.assertRaises(TypeError):
            breaking_round(self.BOOK, 0, 0, 2)
        with self.assertRaises(TypeError):
            breaking_round(self.BOOK, 0, 0)

    def test_the_book_stays_as_it_was(self):
        bodies = rich_bodies(7)
        before = copy.deepcopy(bodies)
        book = Book(bodies)
        for key in keys_of(book):
            rounds(book, *key), breaking_round(book, *key, count=3), equations_of(book, [key, key])
        self.assertEqual((bodies, book), (before, Book(before)))


if __name__ == "__main__":
    unittest.main()
