"""Tests of penhome.spaces: points 2 to 6 and 25 to 28."""

import math
import random
import unittest

from bases import (
    COUNTED, GREAT, IDENTITY, MIXED, ZERO, canonical, combined, made_rows, some_matrices, sparse, unit)
from making import lists_in
from penhome.errors import NoRows
from penhome.matrices import composed, kept_matrix, matrix_of
from penhome.spaces import Space
from samples import BIG, OTHER_BIG, STRANGE


class Checks(unittest.TestCase):
    def is_canonical(self, basis):
        """Check the properties of point 27 one by one."""
        pivots = []
        for row in basis:
            self.assertEqual([type(number) for number in row], [int] * 49)
            self.assertTrue(any(row))
            pivot = min(at for at in range(49) if row[at] != 0)
            self.assertGreater(row[pivot], 0)
            self.assertEqual([other[pivot] for other in basis if other is not row], [0] * (len(basis) - 1))
            self.assertEqual(math.gcd(*row), 1)
            pivots.append(pivot)
        self.assertEqual(pivots, sorted(set(pivots)))

    def space(self, rows, basis):
        """Check the space of the rows, and return it."""
        space = Space(rows)
        self.assertEqual(space.rows(), basis)
        self.assertEqual(len(space), len(basis))
        self.assertIs(type(space.rows()), list)
        self.is_canonical(space.rows())
        return space


class Bases(Checks):
    def test_the_zero_space(self):
        for rows in [[], [list(ZERO)], [list(ZERO)] * 3]:
            space = self.space(rows, [])
            self.assertEqual(space, Space([]))
            self.assertIn(list(ZERO), space)
            for number in range(49):
                self.assertNotIn(unit(number), space)

    def test_one_matrix(self):
        self.space([list(IDENTITY)], [list(IDENTITY)])
        self.space([unit(5, -7)], [unit(5)])
        self.space([unit(48, BIG)], [unit(48)])
        self.space([sparse({3: -4, 10: 6, 40: 0})], [sparse({3: 2, 10: -3})])
        self.space([sparse({3: 4, 10: 6, 40: -10})], [sparse({3: 2, 10: 3, 40: -5})])
        self.space([sparse({0: -1})], [sparse({0: 1})])
        self.space([sparse({7: -2 * BIG, 8: 4 * BIG})], [sparse({7: 1, 8: -2})])

    def test_two_matrices_by_hand(self):
        self.space([sparse({0: 1, 1: 2}), sparse({0: 1, 2: 3})], [sparse({0: 1, 2: 3}), sparse({1: 2, 2: -3})])
        self.space([sparse({0: 2, 1: 1}), sparse({0: 3, 1: 1})], [unit(0), unit(1)])
        self.space([sparse({0: 2, 1: 3, 5: 1}), sparse({1: 2, 6: 1})],
                   [sparse({0: 4, 5: 2, 6: -3}), sparse({1: 2, 6: 1})])
        self.space([sparse({4: 5}), sparse({1: 3, 4: 7})], [unit(1), unit(4)])
        self.space([sparse({4: 5, 9: 1}), sparse({1: -3, 4: 7})], [sparse({1: 15, 9: 7}), sparse({4: 5, 9: 1})])

    def test_the_example_of_the_document(self):
        go, turn = matrix_of(("go", 1)), matrix_of(("turn", 1))
        space = Space([go, turn])
        difference = [a - b for a, b in zip(go, turn)]
        self.assertIn(difference, space)
        self.assertEqual(difference[0], 0)
        self.assertEqual([row[0] for row in space.rows()], [1, 0])

    def test_more_matrices_by_hand(self):
        rows = [sparse({0: 2, 1: 4, 2: 6}), sparse({0: 1, 1: 2, 2: 3}), sparse({0: 3, 1: 7, 2: 1}), list(ZERO)]
        self.space(rows, [sparse({0: 1, 2: 19}), sparse({1: 1, 2: -8})])
        self.space([*rows, sparse({2: 9})], [unit(0), unit(1), unit(2)])

    def test_a_row_may_clear_an_earlier_one(self):
        self.space([sparse({0: 1, 5: 1, 6: 1}), sparse({5: 2, 6: 3})], [sparse({0: 2, 6: -1}), sparse({5: 2, 6: 3})])
        self.space([sparse({5: 2, 6: 3}), sparse({0: 1, 5: 1, 6: 1})], [sparse({0: 2, 6: -1}), sparse({5: 2, 6: 3})])

    def test_made_lists(self):
        for seed in range(250):
            rows = made_rows(seed)
            self.space(rows, canonical(rows))

    def test_the_order_and_the_factors_of_the_list_have_no_meaning(self):
        for seed in range(80):
            rows = made_rows(seed)
            wanted = Space(rows)
            other = rows[::-1] + [[-3 * number for number in row] for row in rows] + [list(ZERO)]
            self.assertEqual(Space(other), wanted)
            self.assertEqual(Space(other).rows(), wanted.rows())
            self.assertEqual(Space(wanted.rows()).rows(), wanted.rows())
            self.assertEqual(Space(wanted.rows()[::-1]), wanted)

    def test_large_numbers(self):
        rows = [list(GREAT), list(COUNTED), list(MIXED), [BIG * a - b for a, b in zip(GREAT, MIXED)]]
        space = self.space(rows, canonical(rows))
        self.assertEqual(len(space), 3)
        self.assertIn([OTHER_BIG * a + b for a, b in zip(GREAT, COUNTED)], space)
        self.assertNotIn([OTHER_BIG * a + b + int(at == 30) for at, (a, b) in enumerate(zip(GREAT, COUNTED))], space)

    def test_all_matrices(self):
        source = random.Random(5)
        full = [unit(at) for at in range(49)]
        self.space([unit(at, at - 60) for at in range(48, -1, -1)], full)
        space = self.space([some_matrices(source, "large") for _ in range(51)], full)
        for row in [ZERO, COUNTED, MIXED, GREAT]:
            self.assertIn(list(row), space)


class Members(Checks):
    def test_combinations_of_the_rows(self):
        for seed in range(100):
            source = random.Random(seed)
            rows = made_rows(seed)
            space = Space(rows)
            for _ in range(3):
                row = combined(rows, [source.choice([0, 1, -1, 7, BIG, OTHER_BIG]) for _ in rows])
                self.assertIs(row in space, True)
                self.assertIs(row not in space, False)
            for row in rows:
                self.assertIn(row, space)

    def test_rational_combinations(self):
        space = Space([sparse({0: 2, 1: 2, 2: 4}), sparse({0: 3, 1: -3})])
        for row in [sparse({0: 1, 1: 1, 2: 2}), sparse({0: 1, 1: -1}), sparse({0: 1, 2: 1}), sparse({1: 1, 2: 1})]:
            self.assertIs(row in space, True)
        for row in [unit(0), unit(1), unit(2), sparse({0: 1, 1: 1, 2: 1}), sparse({0: 1, 1: 1, 2: 2, 48: 1})]:
            self.assertIs(row in space, False)

    def test_what_is_no_combination(self):
        for seed in range(100):
            rows = made_rows(seed)
            space = Space(rows)
            for other in [COUNTED, MIXED, GREAT, IDENTITY, unit(0), unit(24), unit(48), *made_rows(seed + 1000)]:
                inside = len(canonical([*rows, other])) == len(canonical(rows))
                self.assertIs(list(other) in space, inside)

    def test_values_of_any_kind(self):
        almost = [
            *STRANGE, 0, BIG, ZERO, IDENTITY, [0] * 48, [0] * 50, [[0] * 7] * 7, [list(ZERO)], (list(ZERO),),
            [False] * 49, [0] * 48 + [False], [True, *ZERO[1:]], [None] * 49, ["0"] * 49, "0" * 49, [[]] * 49,
            {at: 0 for at in range(49)}, Space([]), [Space([])] * 49, [Space([]), *ZERO[1:]], [*ZERO[1:], ()],
        ]
        for space in [Space([]), Space([list(IDENTITY)]), Space([unit(at) for at in range(49)])]:
            for value in almost:
                with self.subTest(value=value, size=len(space)):
                    self.assertIs(value in space, False)


class Operators(Checks):
    def test_sums(self):
        for seed in range(120):
            one, other = made_rows(seed), made_rows(seed + 500)
            total = Space(one) + Space(other)
            self.assertIsInstance(total, Space)
            self.assertEqual(total.rows(), canonical(one + other))
            self.is_canonical(total.rows())
            self.assertEqual(total, Space(other) + Space(one))

    def test_sums_with_the_zero_space_and_with_itself(self):
        for seed in range(30):
            space = Space(made_rows(seed))
            self.assertEqual(space + Space([]), space)
            self.assertEqual(Space([]) + space, space)
            self.assertEqual(space + space, space)

    def test_products_are_spaces_of_compositions(self):
        for seed in range(80):
            one, other = made_rows(seed), made_rows(seed + 700)
            product = Space(one) * Space(other)
            self.assertIsInstance(product, Space)
            # The given rows are not the basis, but their compositions have the same space.
            self.assertEqual(product.rows(), canonical([composed(a, b) for a in one for b in other]))
            self.is_canonical(product.rows())

    def test_products_keep_the_order(self):
        go, turn = matrix_of(("go", 1)), matrix_of(("turn", 1))
        one, other = Space([go]), Space([turn])
        self.assertEqual((one * other).rows(), [composed(go, turn)])
        self.assertEqual((other * one).rows(), [composed(turn, go)])
        self.assertNotEqual(one * other, other * one)

    def test_products_with_the_zero_space_and_the_identity(self):
        for seed in range(30):
            space = Space(made_rows(seed))
            for zero in [Space([]), Space([list(ZERO)])]:
                self.assertEqual((space * zero).rows(), [])
                self.assertEqual((zero * space).rows(), [])
            self.assertEqual(space * Space([list(IDENTITY)]), space)
            self.assertEqual(Space([list(IDENTITY)]) * space, space)

    def test_products_of_matrices_that_compose_to_zero(self):
        one, other = Space([unit(0)]), Space([unit(8)])
        self.assertEqual((one * other).rows(), [])
        self.assertEqual((one * one).rows(), [unit(0)])

    def test_products_of_three(self):
        for seed in range(20):
            one, two, three = [Space(made_rows(seed + more)[:3]) for more in (0, 40, 80)]
            self.assertEqual((one * two) * three, one * (two * three))
            self.assertEqual(one * (two + three), one * two + one * three)

    def test_kept_spaces(self):
        for seed in range(120):
            rows = made_rows(seed)
            kept = Space(rows).kept()
            self.assertIsInstance(kept, Space)
            self.assertEqual(kept.rows(), canonical([kept_matrix(row) for row in rows]))
            self.assertEqual(kept.kept(), kept)
        self.assertEqual(Space([]).kept(), Space([]))
        self.assertEqual(Space([matrix_of(("go", 1)), matrix_of(("turn", 1))]).kept().rows(), [list(IDENTITY)])
        self.assertEqual(Space([unit(8)]).kept(), Space([]))

    def test_equality(self):
        spaces = [Space(rows) for rows in [
            [], [unit(0)], [unit(1)], [unit(0), unit(1)], [sparse({0: 1, 1: 1})], [sparse({0: 1, 1: -1})],
            [list(GREAT)], [list(COUNTED)], [list(COUNTED), list(GREAT)]]]
        for at, one in enumerate(spaces):
            for number, other in enumerate(spaces):
                self.assertIs(one == other, at == number)
                self.assertIs(one != other, at != number)
        self.assertEqual(
            Space([sparse({0: 1, 1: 1}), sparse({0: 1, 1: -1})]), Space([unit(1, -5), sparse({0: 7, 1: BIG})]))
        for seed in range(60):
            one, other = made_rows(seed), made_rows(seed // 2)
            self.assertIs(Space(one) == Space(other), canonical(one) == canonical(other))


class Faults(unittest.TestCase):
    def check(self, rows, index):
        with self.subTest(rows=rows):
            with self.assertRaises(NoRows) as caught:
                Space(rows)
            self.assertEqual(caught.exception.index, index)

    def test_no_lists(self):
        for wrong in [None, True, False, 0, 49, "", (), (list(IDENTITY),), {}, {0: list(IDENTITY)}, Space([])]:
            self.check(wrong, -1)

    def test_no_matrices(self):
        for wrong in [
                *STRANGE, 0, ZERO, [0] * 48, [0] * 50, [[0] * 7] * 7, [True, *ZERO[1:]], [*ZERO[1:], False],
                [*ZERO[1:], None], [*ZERO[1:], "0"], [*ZERO[1:], [0]], [*ZERO[1:], (0,)], Space([]), [Space([])] * 49]:
            self.check([wrong], 0)
            self.check([list(IDENTITY), wrong], 1)
            self.check([list(ZERO), list(GREAT), wrong, None, list(ZERO)], 2)
            self.check([wrong, wrong], 0)

    def test_a_matrix_is_not_a_list_of_matrices(self):
        self.check(list(IDENTITY), 0)

    def test_wrong_lists_do_not_change(self):
        rows = [list(COUNTED), [0] * 48]
        with self.assertRaises(NoRows):
            Space(rows)
        self.assertEqual(rows, [list(COUNTED), [0] * 48])


class Copies(unittest.TestCase):
    def test_a_space_has_its_own_copy(self):
        rows = [list(IDENTITY), unit(5)]
        space = Space(rows)
        before = Space([list(IDENTITY), unit(5)])
        for row in rows:
            row[3] = 9
        rows.append(unit(7))
        self.assertEqual(space, before)
        self.assertEqual(space.rows(), [list(IDENTITY), unit(5)])

    def test_what_is_returned_is_new(self):
        one, other = Space([list(COUNTED), list(MIXED)]), Space([list(GREAT), list(IDENTITY)])
        for make in [
                lambda: one, lambda: one + other, lambda: one * other, lambda: one.kept(), lambda: one + Space([]),
                lambda: one + one, lambda: other * Space([list(IDENTITY)])]:
            space = make()
            right = space.rows()
            spoiled = space.rows()
            for each in lists_in(spoiled):
                each.clear()
            self.assertEqual(space.rows(), right)
            self.assertEqual(make().rows(), right)
            found = lists_in([space.rows(), space.rows()])
            self.assertEqual(len({id(each) for each in found}), len(found))

    def test_a_space_does_not_change(self):
        for seed in range(40):
            rows, others = made_rows(seed), made_rows(seed + 300)
            before = [list(row) for row in rows], [list(row) for row in others]
            one, other = Space(rows), Space(others)
            right = one.rows(), other.rows()
            one + other, one * other, one.kept(), one == other, one != other, len(one)
            for value in [*others, list(COUNTED), list(ZERO), None]:
                value in one
            self.assertEqual((one.rows(), other.rows()), right)
            self.assertEqual((rows, others), before)
            self.assertEqual((one, other), (Space(rows), Space(others)))

    def test_one_list_several_times(self):
        row = list(COUNTED)
        space = Space([row, row, row])
        row[0] = 1
        self.assertEqual(len(space), 1)
        self.assertIn(list(COUNTED), space)
