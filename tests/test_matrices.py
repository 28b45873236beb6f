"""Tests of penhome.matrices: points 3, 4, 10 to 14 and 25."""

import unittest

from penhome.errors import NoCommand, NoPen
from penhome.matrices import applied, composed, kept_matrix, matrix_of, vector
from penhome.pens import moved
from samples import BIG, COMMANDS, NO_COMMANDS, NO_PENS, OTHER_BIG, PENS

# Tuples, so that no function can change what a later test starts from.
IDENTITY = (
    1, 0, 0, 0, 0, 0, 0,
    0, 1, 0, 0, 0, 0, 0,
    0, 0, 1, 0, 0, 0, 0,
    0, 0, 0, 1, 0, 0, 0,
    0, 0, 0, 0, 1, 0, 0,
    0, 0, 0, 0, 0, 1, 0,
    0, 0, 0, 0, 0, 0, 1,
)

# Rows that differ from those of the identity, for each command.
ROWS = [
    (("go", 0), {}),
    (("go", -9), {1: [0, 1, 0, -9, 0, 0, 0], 2: [0, 0, 1, 0, -9, 0, 0]}),
    (("go", 9), {1: [0, 1, 0, 9, 0, 0, 0], 2: [0, 0, 1, 0, 9, 0, 0]}),
    (("turn", 1), {3: [0, 0, 0, 0, -1, 0, 0], 4: [0, 0, 0, 1, 0, 0, 0]}),
    (("turn", 2), {3: [0, 0, 0, -1, 0, 0, 0], 4: [0, 0, 0, 0, -1, 0, 0]}),
    (("turn", 3), {3: [0, 0, 0, 0, 1, 0, 0], 4: [0, 0, 0, -1, 0, 0, 0]}),
    (("mirror",), {4: [0, 0, 0, 0, -1, 0, 0]}),
    (("scale", -3), {3: [0, 0, 0, -3, 0, 0, 0], 4: [0, 0, 0, 0, -3, 0, 0]}),
    (("scale", 0), {3: [0, 0, 0, 0, 0, 0, 0], 4: [0, 0, 0, 0, 0, 0, 0]}),
    (("scale", 3), {3: [0, 0, 0, 3, 0, 0, 0], 4: [0, 0, 0, 0, 3, 0, 0]}),
    (("aim", 4, -2), {3: [4, 0, 0, 0, 0, 0, 0], 4: [-2, 0, 0, 0, 0, 0, 0]}),
    (("aim", -9, 9), {3: [-9, 0, 0, 0, 0, 0, 0], 4: [9, 0, 0, 0, 0, 0, 0]}),
    (("place", 7, -8), {1: [7, 0, 0, 0, 0, 0, 0], 2: [-8, 0, 0, 0, 0, 0, 0]}),
    (("mark",), {5: [0, 1, 0, 0, 0, 0, 0], 6: [0, 0, 1, 0, 0, 0, 0]}),
    (("return",), {1: [0, 0, 0, 0, 0, 1, 0], 2: [0, 0, 0, 0, 0, 0, 1]}),
    (("exchange",), {
        1: [0, 0, 0, 0, 0, 1, 0], 2: [0, 0, 0, 0, 0, 0, 1],
        5: [0, 1, 0, 0, 0, 0, 0], 6: [0, 0, 1, 0, 0, 0, 0]}),
]

# 49 different numbers, so that no two places can be mistaken for each other.
COUNTED = tuple(100 + 3 * at + at * at for at in range(49))
MIXED = tuple((at * 37 + 11) % 53 - 26 for at in range(49))
GREAT = tuple(BIG * (at % 5 - 2) + OTHER_BIG * (at % 3) + at for at in range(49))


def matrices():
    """Return new lists each time."""
    doubled = [-2 * number for number in IDENTITY]
    return [list(IDENTITY), [0] * 49, doubled, list(COUNTED), list(MIXED), list(GREAT)]


def with_rows(rows):
    """Return the identity with some rows replaced."""
    return [number for i in range(7) for number in rows.get(i, IDENTITY[7 * i:7 * i + 7])]


def executed(matrix, numbers):
    """Execute a matrix on seven numbers as point 11 says."""
    behind = [0] * 7
    for i in range(7):
        for j in range(7):
            behind[i] += matrix[7 * i + j] * numbers[j]
    return behind


def composed_by_definition(one, other):
    """Compose two matrices as point 14 says."""
    found = [0] * 49
    for i in range(7):
        for j in range(7):
            for k in range(7):
                found[7 * i + j] += other[7 * i + k] * one[7 * k + j]
    return found


class Vectors(unittest.TestCase):
    def test_the_vector_is_one_and_the_numbers(self):
        self.assertEqual(vector((1, 2, 3, 4, 5, 6)), [1, 1, 2, 3, 4, 5, 6])
        for pen in PENS:
            self.assertEqual(vector(pen), [1] + list(pen))
            self.assertIs(type(vector(pen)), list)

    def test_no_pens(self):
        for wrong in NO_PENS:
            with self.subTest(pen=wrong), self.assertRaises(NoPen):
                vector(wrong)


class MatricesOfCommands(unittest.TestCase):
    def test_each_command_has_these_49_numbers(self):
        for command, rows in ROWS:
            with self.subTest(command=command):
                self.assertEqual(matrix_of(command), with_rows(rows))

    def test_every_command_has_a_matrix_of_integers_with_row_0(self):
        for command in COMMANDS:
            matrix = matrix_of(command)
            self.assertIs(type(matrix), list)
            self.assertEqual([type(number) for number in matrix], [int] * 49)
            self.assertEqual(matrix[:7], [1, 0, 0, 0, 0, 0, 0])

    def test_the_matrix_does_what_the_command_does(self):
        for command in COMMANDS:
            matrix = matrix_of(command)
            for pen in PENS:
                self.assertEqual(executed(matrix, [1, *pen]), [1, *moved(pen, command)], (command, pen))

    def test_no_commands(self):
        for wrong in NO_COMMANDS:
            with self.subTest(command=wrong), self.assertRaises(NoCommand):
                matrix_of(wrong)


class Applied(unittest.TestCase):
    def test_the_matrix_of_a_command(self):
        for command, _ in ROWS:
            for pen in PENS:
                self.assertEqual(applied(matrix_of(command), pen), moved(pen, command))

    def test_any_matrix_on_any_pen(self):
        for matrix in matrices():
            for pen in PENS:
                behind = applied(matrix, pen)
                self.assertIs(type(behind), tuple)
                self.assertEqual(behind, tuple(executed(matrix, [1, *pen])[1:]))

    def test_by_hand(self):
        matrix = [int(at % 7 == 0) * (at // 7) for at in range(49)]
        self.assertEqual(applied(matrix, (9, 9, 9, 9, 9, 9)), (1, 2, 3, 4, 5, 6))
        matrix = [at % 7 if at // 7 == 3 else 0 for at in range(49)]
        self.assertEqual(applied(matrix, (1, 10, 100, 1000, 10000, 100000)), (0, 0, 654321, 0, 0, 0))

    def test_number_0_of_the_result_is_ignored(self):
        for row in [[1, 0, 0, 0, 0, 0, 0], [0] * 7, [5, 4, 3, 2, 1, 0, -1], [BIG] * 7]:
            for pen in PENS:
                self.assertEqual(applied(row + list(IDENTITY[7:]), pen), pen)
                self.assertEqual(applied(row + list(GREAT[7:]), pen), applied(list(GREAT), pen))

    def test_no_pens(self):
        for matrix in [list(IDENTITY), [0] * 49, list(COUNTED)]:
            for wrong in NO_PENS:
                with self.subTest(pen=wrong), self.assertRaises(NoPen):
                    applied(matrix, wrong)


class Composed(unittest.TestCase):
    def test_one_comes_ahead_of_the_other(self):
        go, turn = ("go", 2), ("turn", 1)
        pen = (1, 2, 3, 4, 5, 6)
        for one, other in [(go, turn), (turn, go)]:
            behind = moved(moved(pen, one), other)
            self.assertEqual(applied(composed(matrix_of(one), matrix_of(other)), pen), behind)
        self.assertEqual(
            composed(matrix_of(go), matrix_of(turn)),
            with_rows({
                1: [0, 1, 0, 2, 0, 0, 0], 2: [0, 0, 1, 0, 2, 0, 0],
                3: [0, 0, 0, 0, -1, 0, 0], 4: [0, 0, 0, 1, 0, 0, 0]}))
        self.assertEqual(
            composed(matrix_of(turn), matrix_of(go)),
            with_rows({
                1: [0, 1, 0, 0, -2, 0, 0], 2: [0, 0, 1, 2, 0, 0, 0],
                3: [0, 0, 0, 0, -1, 0, 0], 4: [0, 0, 0, 1, 0, 0, 0]}))

    def test_all_pairs_of_commands(self):
        pen = (1, -2, 3, 5, -8, 13)
        for one, _ in ROWS:
            for other, _ in ROWS:
                matrix = composed(matrix_of(one), matrix_of(other))
                self.assertEqual(matrix[:7], [1, 0, 0, 0, 0, 0, 0])
                self.assertEqual(applied(matrix, pen), moved(moved(pen, one), other), (one, other))

    def test_any_matrices(self):
        for one in matrices():
            for other in matrices():
                matrix = composed(one, other)
                self.assertIs(type(matrix), list)
                self.assertEqual(matrix, composed_by_definition(one, other))

    def test_the_identity_on_either_side(self):
        for matrix in matrices():
            self.assertEqual(composed(list(IDENTITY), matrix), matrix)
            self.assertEqual(composed(matrix, list(IDENTITY)), matrix)

    def test_the_same_list_twice(self):
        for matrix in [*matrices(), matrix_of(("turn", 1))]:
            before = list(matrix)
            self.assertEqual(composed(matrix, matrix), composed_by_definition(before, before))
            self.assertEqual(matrix, before)
        turn = matrix_of(("turn", 1))
        self.assertEqual(composed(turn, turn), matrix_of(("turn", 2)))

    def test_both_groupings_of_three(self):
        for one in matrices():
            for two in matrices():
                for three in matrices():
                    self.assertEqual(
                        composed(composed(one, two), three), composed(one, composed(two, three)))


class Kept(unittest.TestCase):
    def test_rows_for_each_first_number(self):
        for first in [0, 1, -1, 2, 7, BIG, OTHER_BIG]:
            matrix = [first, *COUNTED[1:]]
            kept = kept_matrix(matrix)
            with self.subTest(first=first):
                self.assertIs(type(kept), list)
                self.assertEqual(len(kept), 49)
                self.assertEqual(kept[:7], matrix[:7])
                self.assertEqual(kept[7:14], [0, first, 0, 0, 0, 0, 0])
                self.assertEqual(kept[14:21], [0, 0, first, 0, 0, 0, 0])
                self.assertEqual(kept[21:28], [0, 0, 0, first, 0, 0, 0])
                self.assertEqual(kept[28:35], [0, 0, 0, 0, first, 0, 0])
                self.assertEqual(kept[35:], matrix[35:])

    def test_matrices_of_commands_lose_all_but_the_mark(self):
        for command, _ in ROWS:
            for pen in PENS:
                behind = moved(pen, command)
                self.assertEqual(applied(kept_matrix(matrix_of(command)), pen), pen[:4] + behind[4:])

    def test_kept_twice_is_kept_once(self):
        for matrix in matrices():
            self.assertEqual(kept_matrix(kept_matrix(matrix)), kept_matrix(matrix))

    def test_the_kept_matrix_is_linear(self):
        for one in matrices():
            for other in matrices():
                total = [2 * a - 5 * b for a, b in zip(one, other)]
                kept = [2 * a - 5 * b for a, b in zip(kept_matrix(one), kept_matrix(other))]
                self.assertEqual(kept_matrix(total), kept)


class NewLists(unittest.TestCase):
    CALLS = [
        lambda one, other: vector((1, 2, 3, 4, 5, 6)),
        lambda one, other: matrix_of(("go", 3)),
        lambda one, other: matrix_of(("go", 0)),
        lambda one, other: composed(one, other),
        lambda one, other: composed(one, list(IDENTITY)),
        lambda one, other: composed(list(IDENTITY), other),
        lambda one, other: kept_matrix(one),
        lambda one, other: kept_matrix(list(IDENTITY)),
    ]

    def test_no_argument_is_changed(self):
        for one in matrices():
            for other in matrices():
                ahead = list(one), list(other)
                for call in self.CALLS:
                    call(one, other)
                applied(one, (1, 2, 3, 4, 5, 6))
                with self.assertRaises(NoPen):
                    applied(other, [1, 2, 3, 4, 5, 6])
                self.assertEqual((one, other), ahead)

    def test_changing_an_answer_changes_no_later_answer(self):
        for call in self.CALLS:
            one, other = list(COUNTED), list(MIXED)
            answer = call(one, other)
            right = list(answer)
            answer[0] = "changed"
            answer.clear()
            self.assertEqual(call(one, other), right)
            self.assertEqual((one, other), (list(COUNTED), list(MIXED)))

    def test_no_two_answers_are_the_same_list(self):
        one, other = list(COUNTED), list(MIXED)
        answers = [call(one, other) for call in self.CALLS for _ in range(3)] + [one, other]
        self.assertEqual(len({id(answer) for answer in answers}), len(answers))
