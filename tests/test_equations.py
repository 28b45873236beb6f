"""Tests of penhome.equations: points 2 to 6 and 35 to 44."""

import copy
import random
import unittest
from itertools import product

from bases import COUNTED, MIXED, canonical, unit
from few import all_hold, breaks, least_runs, least_sum
from making import lists_in, made_bodies, rich_bodies
from penhome.books import Book
from penhome.equations import decide, equation_fault, holds_fault, named
from penhome.errors import NoEquation, NoEquations
from penhome.matrices import matrix_of
from penhome.runs import ran
from penhome.spaces import Space
from penhome.tables import table, table_fault
from rules import closed, spaces
from samples import BIG, STRANGE

GO, TURN, MARK = ("go", 1), ("turn", 1), ("mark",)
ZERO = Space([])
FULL = Space([unit(at) for at in range(49)])
EXAMPLE = Book([[GO], [TURN]])

# Some equations of each number of variables: their two sides.
SIDES = {
    1: [([0], []), ([], [0]), ([0], [0])],
    2: [([0, 1], [1, 0]), ([0, 1], []), ([0, 1], [0]), ([0, 1], [1]), ([0], [1]), ([1], [0, 1]), ([], [1, 0])],
    3: [([0, 1, 2], [1, 2, 0]), ([0, 1], [2]), ([2, 0, 1], [0, 1]), ([0, 1, 2], []), ([1], [2, 0]), ([0, 2], [1, 2])],
}
PARTS = [[0], [1], [2], [0, 1], [0, 2], [1, 2], [0, 1, 2]]


def call(procedure, saved, zero, one):
    return ("call", procedure, saved, [zero, one])


def keys_of(book):
    return [(procedure, way) for procedure in range(len(book)) for way in (0, 1)]


def some_equations(book, seed, many):
    """Make equations of a book."""
    source = random.Random(seed)
    found = []
    for _ in range(many):
        size = source.choice([1, 2, 2, 3])
        keys = [source.choice(keys_of(book)) for _ in range(size)]
        found.append((keys, *source.choice(SIDES[size]), source.choice(PARTS)))
    return found


# Values that are not an equation of a book of two procedures, with the place at fault.
RIGHT = ([(0, 0), (1, 1)], [0, 1], [1, 0], [0, 2])


def with_item(at, thing):
    return RIGHT[:at] + (thing,) + RIGHT[at + 1:]


NO_EQUATIONS = [
    ("equation", wrong) for wrong in [
        *STRANGE, 0, BIG, ZERO, list(RIGHT), RIGHT[:3], (*RIGHT, [0]), (RIGHT,), [RIGHT], {at: RIGHT[at] for at in range(4)}]
] + [
    ("variables", with_item(0, wrong)) for wrong in [
        None, True, 0, "", "keys", [], (), {}, ((0, 0), (1, 1)), (0, 0), [(0, 0)] * 4, {(0, 0): 1}, ZERO, [ZERO],
        [[0, 0], (1, 1)], [(0, 0), [1, 1]], [(0, 0), (2, 0)], [(0, 0), (-1, 0)], [(0, 2)], [(0, -1)], [(True, 0)],
        [(0, False)], [(0, 0), (1, True)], [(False, 0), (1, 1)], [(0,)], [(0, 0, 0)], [()], [0, 0], [None], ["00"],
        [("0", 0)], [(0, "0")], [(BIG, 0)], [(0, BIG)], [((0, 0),)], [(0, 0), None]]
] + [
    ("left", with_item(1, wrong)) for wrong in [
        None, True, 0, "", "01", (), (0, 1), {}, {0: 1}, [2], [-1], [0, 2], [0, 0], [1, 0, 1], [True, 0], [0, True],
        [False], [None], ["0"], [[0]], [(0,)], [BIG], ZERO, [ZERO]]
] + [
    ("right", with_item(2, wrong)) for wrong in [
        None, True, 0, "", "01", (), (1, 0), {}, {0: 1}, [2], [-1], [0, 2], [0, 0], [1, 0, 1], [True, 0], [0, True],
        [False], [None], ["0"], [[0]], [(0,)], [BIG], ZERO, [ZERO]]
] + [
    ("right", ([(0, 0), (1, 1)], left, right, [0])) for left, right in [([], []), ([0], []), ([], [1]), ([0], [0])]
] + [
    ("right", ([(0, 0)] * 3, left, right, [0])) for left, right in [([0, 1], [1, 0]), ([2], [2, 0]), ([], [0, 1])]
] + [
    ("parts", with_item(3, wrong)) for wrong in [
        None, True, 0, "", "0", [], (), (0,), (0, 1), {}, {0: 1}, [3], [-1], [0, 3], [1, 0], [0, 0], [0, 2, 1],
        [0, 1, 1], [0, 1, 2, 2], [0, 1, 2, 3], [True], [False], [0, True], [None], ["0"], [[0]], [(0,)], [BIG], ZERO,
        [ZERO]]
] + [
    # The first place that applies.
    ("variables", ([(0, 2)], [5], [5], [])),
    ("variables", ([], [], [], [])),
    ("left", ([(0, 0)], [0, 0], [1], [])),
    ("right", ([(0, 0)], [0], [0, 0], [])),
    ("right", ([(0, 0)], [], [], [9])),
    ("left", ([(0, 0)], [1], [], [0])),
    ("parts", ([(0, 0)], [0], [0], [9])),
]


class WrongEquations(unittest.TestCase):
    BOOK = Book([[GO], [("end", 1)]])

    def raised(self, function, *arguments):
        with self.assertRaises(NoEquation) as caught:
            function(*arguments)
        return caught.exception.place

    def test_the_right_one(self):
        decide(self.BOOK, RIGHT)
        equation_fault(self.BOOK, RIGHT, None)
        holds_fault(self.BOOK, [RIGHT], None)

    def test_places(self):
        for place, wrong in NO_EQUATIONS:
            with self.subTest(wrong=wrong):
                before = repr(wrong)
                self.assertEqual(self.raised(decide, self.BOOK, wrong), place)
                self.assertEqual(self.raised(equation_fault, self.BOOK, wrong, [[], []]), place)
                self.assertEqual(repr(wrong), before)

    def test_procedures_of_the_book(self):
        one = Book([[GO]])
        for procedure in range(4):
            for book in [one, self.BOOK, Book([[], [], []])]:
                equation = ([(procedure, 0)], [0], [], [0])
                if procedure < len(book):
                    decide(book, equation)
                else:
                    self.assertEqual(self.raised(decide, book, equation), "variables")

    def test_each_side_may_be_empty_and_the_sides_may_be_equal(self):
        for left, right in [([], [0]), ([0], []), ([0], [0])]:
            decide(self.BOOK, ([(0, 0)], left, right, [0]))

    def test_lists_of_equations(self):
        right = table(self.BOOK)
        for wrong in [*STRANGE, 0, ZERO, RIGHT, (RIGHT,), {0: RIGHT}]:
            if wrong in ([], [1]):
                continue
            self.index(wrong, right, -1)
        for place, wrong in NO_EQUATIONS:
            with self.subTest(wrong=wrong):
                self.index([wrong], right, 0)
                self.index([RIGHT, wrong], None, 1)
                self.index([RIGHT, RIGHT, wrong, wrong], right, 2)
        self.index([1], right, 0)

    def index(self, equations, thing, wanted):
        with self.assertRaises(NoEquations) as caught:
            holds_fault(self.BOOK, equations, thing)
        self.assertEqual(caught.exception.index, wanted)
        self.assertIs(type(caught.exception.index), int)


class Named(unittest.TestCase):
    WORDS = [
        ("home", 1, [0], []), ("swap", 2, [0, 1], [1, 0]), ("undo", 2, [0, 1], []), ("first", 2, [0, 1], [0]),
        ("last", 2, [0, 1], [1]), ("ring", 3, [0, 1, 2], [1, 2, 0]),
    ]

    def test_words(self):
        for word, many, left, right in self.WORDS:
            for keys in [[(0, 0), (1, 1), (2, 0)], [(2, 1)] * 3]:
                variables = keys[:many]
                found = named(word, variables)
                self.assertEqual(found, (variables, left, right, [0, 1, 2]))
                self.assertEqual([type(item) for item in (found, *found)], [tuple, list, list, list, list])
                self.assertEqual(named(word, variables, parts=None), found)
                for parts in PARTS:
                    self.assertEqual(named(word, variables, parts=parts), (variables, left, right, parts))

    def test_they_are_equations(self):
        book = Book(rich_bodies(0))
        for word, many, _, _ in self.WORDS:
            self.assertIn(decide(book, named(word, [(0, 0)] * many))[0], ["holds", "runs"])

    def test_the_lists_are_new(self):
        for word, many, left, right in self.WORDS:
            variables, parts = [(0, 0)] * many, [0, 2]
            first, second = named(word, variables, parts=parts), named(word, variables, parts=parts)
            third, fourth = named(word, variables), named(word, variables)
            found = lists_in([first, second, third, fourth, variables, parts])
            self.assertEqual(len({id(each) for each in found}), len(found))
            for each in lists_in(first) + lists_in(third):
                each.append("spoiled")
            self.assertEqual((variables, parts), ([(0, 0)] * many, [0, 2]))
            self.assertEqual(named(word, variables, parts=parts), second)
            self.assertEqual(named(word, variables), (variables, left, right, [0, 1, 2]))

    def place(self, word, variables, parts, wanted):
        with self.subTest(word=word, variables=variables, parts=parts):
            with self.assertRaises(NoEquation) as caught:
                named(word, variables, parts=parts)
            self.assertEqual(caught.exception.place, wanted)

    def test_no_word(self):
        for wrong in [*STRANGE, 0, "Home", "home ", "HOME", "rings", ["home"], ("home",), {"home": 1}, ZERO]:
            for variables, parts in [([(0, 0)], None), (None, None), ([], []), ([(0, 0)], [5])]:
                self.place(wrong, variables, parts, "equation")

    def test_no_variables(self):
        key = (0, 0)
        for word, many, _, _ in self.WORDS:
            for wrong in [
                    None, True, 0, "", (), {}, (key,) * many, [key] * (many - 1), [key] * (many + 1), key, ZERO,
                    *[[key] * (many - 1) + [item] for item in [
                        [0, 0], (3, 0), (-1, 0), (0, 2), (0, -1), (True, 0), (0, True), (False, 0), (0, False), (0,),
                        (0, 0, 0), (), None, 0, "00", ("0", 0), (0, "0"), (None, None), ([0], 0), (BIG, 0), ZERO]]]:
                for parts in [None, [0], [], "parts"]:
                    self.place(word, wrong, parts, "variables")

    def test_no_parts(self):
        for word, many, _, _ in self.WORDS:
            for wrong in [
                    True, False, 0, "", "0", [], (), (0,), (0, 1, 2), {}, {0: 1}, [3], [-1], [1, 0], [0, 0], [0, 1, 1],
                    [0, 1, 2, 3], [True], [0, True], [None], ["0"], [[0]], [BIG], ZERO]:
                self.place(word, [(0, 0)] * many, wrong, "parts")

    def test_parts_are_passed_by_keyword_alone(self):
        with self.assertRaises(TypeError):
            named("home", [(0, 0)], [0])


class EquationFaults(unittest.TestCase):
    # Procedure 0 ends in the way of its first bit, procedure 1 goes in a direction.
    BOOK = Book([
        [("either", [GO], [TURN, ("end", 1)])],
        [("either", [GO], [("either", [TURN], [("aim", 0, 1), ("place", 0, 0)])])],
    ])
    ROUND = ([(0, 1), (1, 0)], [0, 1], [1, 0], [0])

    def test_form(self):
        for wrong in [
                None, True, 0, "", "01", (), ([1], [0]), {}, {0: [1], 1: [0]}, [], [[1]], [[1], [0], [0]], ZERO, [ZERO]]:
            self.assertEqual(equation_fault(self.BOOK, self.ROUND, wrong), ("form",))

    def test_runs_and_ways(self):
        for wrong in [None, 0, "1", (), (1,), {}, [], [2], [True], ["1"], [1, 0], [0, 1], ZERO, [[1]], [-1]]:
            self.assertEqual(equation_fault(self.BOOK, self.ROUND, [wrong, [0]]), ("run", 0))
            self.assertEqual(equation_fault(self.BOOK, self.ROUND, [wrong, wrong]), ("run", 0))
        for wrong in [None, 0, "0", (), (0,), {}, [], [2], [False], [1], [0, 0], [1, 1, 1], ZERO]:
            self.assertEqual(equation_fault(self.BOOK, self.ROUND, [[1], wrong]), ("run", 1))
            # The way of the first run comes ahead of the second run.
            self.assertEqual(equation_fault(self.BOOK, self.ROUND, [[0], wrong]), ("way", 0))
        self.assertEqual(equation_fault(self.BOOK, self.ROUND, [[0], [0]]), ("way", 0))
        other = ([(1, 0), (0, 0), (0, 1)], [0, 1, 2], [], [1])
        self.assertEqual(equation_fault(self.BOOK, other, [[0], [1], [1]]), ("way", 1))
        self.assertEqual(equation_fault(self.BOOK, other, [[0], [0], [0]]), ("way", 2))
        self.assertEqual(equation_fault(self.BOOK, other, [[0], [0], []]), ("run", 2))
        self.assertEqual(equation_fault(self.BOOK, ([(1, 1)], [0], [], [0]), [[0]]), ("way", 0))

    def test_runs_that_break_and_that_do_not(self):
        self.assertIsNone(equation_fault(self.BOOK, self.ROUND, [[1], [0]]))
        self.assertEqual(equation_fault(self.BOOK, self.ROUND, [[1], [1, 0]]), ("kept",))
        swap = ([(0, 1), (1, 0)], [0, 1], [1, 0], [1])
        self.assertEqual(equation_fault(self.BOOK, swap, [[1], [0]]), ("kept",))
        self.assertEqual(equation_fault(self.BOOK, swap, [[1], [1, 0]]), ("kept",))
        self.assertIsNone(equation_fault(self.BOOK, swap, [[1], [1, 1]]))

    def test_runs_that_go_on_for_ever(self):
        book = Book([[call(0, False, [], [])]])
        self.assertEqual(equation_fault(book, ([(0, 0)], [0], [], [0]), [[]]), ("run", 0))

    def test_an_index_on_both_sides_is_the_same_run(self):
        same = ([(1, 0)], [0], [0], [0, 1, 2])
        for bits in [[0], [1, 0], [1, 1]]:
            self.assertEqual(equation_fault(self.BOOK, same, [bits]), ("kept",))
        # Two variables with one key are two runs.
        two = ([(1, 0), (1, 0)], [0], [1], [0, 1, 2])
        for one, other in product([[0], [1, 0], [1, 1]], repeat=2):
            self.assertEqual(equation_fault(self.BOOK, two, [one, other]), ("kept",) if one == other else None)
        last = ([(1, 0), (1, 0)], [0, 1], [0], [0, 1, 2])
        self.assertIsNone(equation_fault(self.BOOK, last, [[1, 1], [0]]))
        self.assertEqual(equation_fault(self.BOOK, ([(1, 0), (1, 0)], [0, 1], [1], [0, 1]), [[0], [1, 1]]), ("kept",))

    def test_made_runs(self):
        broken = 0
        for seed in range(60):
            book = Book(rich_bodies(seed))
            for equation in some_equations(book, seed, 4):
                lists = [[run[1] for run in least_runs(book.bodies(), key, 5)[:3]] for key in equation[0]]
                for runs in product(*lists):
                    wanted = None if breaks(book, equation, runs) else ("kept",)
                    self.assertEqual(equation_fault(book, equation, list(runs)), wanted)
                    broken += wanted is None
        self.assertGreater(broken, 100)

    def test_nothing_is_changed(self):
        equation, thing = copy.deepcopy(self.ROUND), [[1], [0]]
        equation_fault(self.BOOK, equation, thing)
        self.assertEqual((equation, thing), (self.ROUND, [[1], [0]]))


class Decisions(unittest.TestCase):
    def check(self, book, equation, most):
        """Check what is decided; runs of few bits show that the sum of the lengths is least."""
        before = copy.deepcopy(equation)
        found = decide(book, equation)
        self.assertEqual(equation, before)
        self.assertIs(type(found), tuple)
        lists = [least_runs(book.bodies(), key, most) for key in equation[0]]
        least = least_sum(lists, equation)
        if found[0] == "holds":
            self.assertEqual(len(found), 2)
            self.assertEqual(found[1], table(book))
            self.assertIsNone(least)
            self.assertIsNone(holds_fault(book, [equation], found[1]))
        else:
            word, runs = found
            self.assertEqual((word, type(runs), len(runs)), ("runs", list, len(equation[0])))
            self.assertTrue(breaks(book, equation, runs))
            self.assertIsNone(equation_fault(book, equation, runs))
            told = [ran(book, key[0], bits) for key, bits in zip(equation[0], runs)]
            self.assertEqual([way for way, _, _ in told], [key[1] for key in equation[0]])
            if least is not None:
                self.assertLessEqual(sum(length for _, _, length in told), least)
            self.assertEqual(holds_fault(book, [equation], table(book)), ("equation", 0))
        return found[0]

    def test_the_example_of_the_document(self):
        keys = [(0, 0), (1, 0)]
        self.assertEqual(decide(EXAMPLE, (keys, [0, 1], [1, 0], [0])), ("runs", [[], []]))
        word, found = decide(EXAMPLE, (keys, [0, 1], [1, 0], [1]))
        self.assertEqual((word, found), ("holds", table(EXAMPLE)))
        self.assertEqual(decide(EXAMPLE, (keys, [0, 1], [1, 0], [2]))[0], "holds")
        self.assertEqual(decide(EXAMPLE, (keys, [0, 1], [1, 0], [1, 2]))[0], "holds")
        self.assertEqual(decide(EXAMPLE, (keys, [0, 1], [1, 0], [0, 1, 2])), ("runs", [[], []]))

    def test_each_list_of_parts(self):
        for body, wrong in [([GO], {0}), ([TURN], {1}), ([MARK], {2}), ([("exchange",)], {0, 2}), ([GO, TURN], {0, 1}),
                            ([TURN, MARK], {1, 2}), ([GO, TURN, MARK], {0, 1, 2}), ([], set())]:
            for parts in PARTS:
                found = decide(Book([body]), ([(0, 0)], [0], [], parts))
                self.assertEqual(found[0], "runs" if wrong & set(parts) else "holds")

    def test_each_number_of_a_part(self):
        # The runs of the two procedures leave pens that differ in one number alone.
        for at, (first, second) in enumerate([
                (("place", 1, 0), ("place", 2, 0)), (("place", 0, 1), ("place", 0, 2)),
                (("aim", 1, 0), ("aim", 2, 0)), (("aim", 0, 1), ("aim", 0, 2))]):
            book = Book([[first], [second]])
            for part in range(3):
                equation = ([(0, 0), (1, 0)], [0], [1], [part])
                self.assertEqual(decide(book, equation)[0], "runs" if part == at // 2 else "holds")
                self.assertEqual(equation_fault(book, equation, [[], []]), None if part == at // 2 else ("kept",))
                self.assertEqual(holds_fault(book, [equation], table(book)), ("equation", 0) if part == at // 2 else None)
        for one, other in [((1, 0), (2, 0)), ((0, 1), (0, 2))]:
            book = Book([[("place", *one), MARK, ("place", 0, 0)], [("place", *other), MARK, ("place", 0, 0)]])
            for part, wanted in [(0, "holds"), (1, "holds"), (2, "runs")]:
                self.assertEqual(decide(book, ([(0, 0), (1, 0)], [0], [1], [part]))[0], wanted)

    def test_all_depths_of_recursion(self):
        deep = Book([[("either", [], [GO, call(0, False, [], []), ("go", -1)])]])
        self.assertEqual(decide(deep, named("home", [(0, 0)])), ("holds", table(deep)))
        turned = Book([[("either", [], [TURN, call(0, False, [], []), TURN])], [("go", 2)]])
        self.assertEqual(decide(turned, named("home", [(0, 0)], parts=[0, 2]))[0], "holds")
        self.assertEqual(decide(turned, named("home", [(0, 0)])), ("runs", [[1, 0]]))
        self.assertEqual(decide(turned, named("swap", [(0, 0), (0, 0)]))[0], "holds")
        self.assertEqual(decide(turned, named("swap", [(0, 0), (1, 0)])), ("runs", [[1, 0], []]))
        # The second turn of each pair comes only after another call.
        shared = Book([[("either", [], [GO, call(1, False, [], []), ("go", -1)])], [
            ("either", [], [("exchange",), call(0, False, [], []), ("exchange",)])]])
        for key in [(0, 0), (1, 0)]:
            self.assertEqual(decide(shared, named("home", [key]))[0], "holds")
        broken = Book([[("either", [], [GO, call(1, False, [], []), ("go", -1)])], [
            ("either", [], [("scale", -1), call(0, False, [], []), ("scale", -1)])], ])
        self.assertEqual(decide(broken, named("home", [(1, 0)]))[0], "holds")
        uneven = Book([[("either", [], [GO, call(1, False, [], []), ("go", -1)])], [
            ("either", [], [("scale", -1), call(0, False, [], []), ("turn", 2), GO])]])
        self.check(uneven, named("home", [(0, 0)]), 8)

    def test_ways(self):
        book = Book([[("either", [GO, ("end", 1)], [call(0, False, [("end", 0)], [("go", -1)])])]])
        self.assertEqual(decide(book, named("home", [(0, 0)]))[0], "holds")
        self.assertEqual(decide(book, named("home", [(0, 1)])), ("runs", [[0]]))
        self.assertEqual(decide(book, named("last", [(0, 0), (0, 1)]))[0], "holds")

    def test_the_fewest_commands_are_not_the_fewest_bits(self):
        book = Book([[("either", [GO] * 3, [("either", [TURN] * 3, [("either", [TURN] * 2, [GO])])])]])
        self.assertEqual(decide(book, named("home", [(0, 0)])), ("runs", [[1, 1, 1]]))
        self.assertEqual(decide(book, named("home", [(0, 0)], parts=[1])), ("runs", [[1, 1, 0]]))

    def test_a_variable_without_runs(self):
        book = Book([[GO], [call(1, False, [], [])]])
        for sides in SIDES[2]:
            for parts in PARTS:
                self.assertEqual(decide(book, ([(0, 0), (1, 0)], *sides, parts)), ("holds", table(book)))
                self.assertEqual(decide(book, ([(1, 1), (0, 0)], *sides, parts)), ("holds", table(book)))
                self.assertEqual(decide(book, ([(0, 1), (1, 0)], *sides, parts)), ("holds", table(book)))
        self.assertEqual(decide(book, ([(1, 0)], [0], [], [0])), ("holds", table(book)))
        self.assertEqual(decide(book, ([(0, 0)], [0], [], [0])), ("runs", [[]]))

    def test_equal_keys(self):
        book = Book([[("either", [GO], [TURN])]])
        keys = [(0, 0), (0, 0)]
        word, runs = decide(book, (keys, [0], [1], [0]))
        self.assertEqual((word, sorted(runs)), ("runs", [[0], [1]]))
        self.assertEqual(decide(book, (keys, [0, 1], [0, 1], [0, 1, 2]))[0], "holds")
        self.assertEqual(decide(book, (keys, [0, 1], [0], [0]))[0], "runs")
        single = Book([[GO, GO]])
        self.assertEqual(decide(single, (keys, [0], [1], [0, 1, 2]))[0], "holds")
        self.assertEqual(decide(single, (keys, [0, 1], [1, 0], [0, 1, 2]))[0], "holds")

    def test_the_length_of_a_run_on_both_sides_counts_once(self):
        # With the first variable long and the second short, or the other way round.
        book = Book([[("either", [GO, GO, GO], [TURN, MARK])], [("either", [("go", 2)], [("scale", 2), ("scale", 1)])]])
        for keys in product([(0, 0), (1, 0)], repeat=2):
            for sides in SIDES[2]:
                for parts in PARTS:
                    self.check(book, (list(keys), *sides, parts), 4)

    def test_made_books(self):
        told = {"holds": 0, "runs": 0}
        for seed in range(70):
            bodies = rich_bodies(seed)
            for equation in some_equations(Book(bodies), seed, 4):
                told[self.check(Book(bodies), equation, 6 if len(equation[0]) < 3 else 4)] += 1
        self.assertGreater(min(told.values()), 40)

    def test_more_made_books(self):
        for seed in range(40):
            book = Book(made_bodies(seed))
            for equation in some_equations(book, seed, 3):
                self.check(book, equation, 5 if len(equation[0]) < 3 else 3)

    def test_three_variables(self):
        book = Book([[("either", [GO], [TURN])], [("again", [MARK, ("go", 2)])], [("keep", [("either", [], [MARK])])]])
        for keys in [[(0, 0), (1, 0), (2, 0)], [(2, 0), (2, 0), (0, 0)], [(2, 0)] * 3]:
            for sides in SIDES[3]:
                for parts in PARTS:
                    self.check(book, (keys, *sides, parts), 3)

    def test_what_is_returned_is_new(self):
        book = Book(rich_bodies(4))
        for equation in [named("swap", [(0, 0), (0, 0)]), named("home", [(0, 0)]), ([(0, 0)], [0], [0], [0])]:
            first = decide(book, equation)
            second = decide(book, equation)
            found = lists_in([first, second])
            self.assertEqual(len({id(each) for each in found}), len(found))
            if first[0] == "runs":
                for each in first[1]:
                    each.append(7)
                first[1].clear()
            else:
                self.assertIsNot(first[1], second[1])
                first[1].clear()
            self.assertEqual(decide(book, equation), second)


class HoldsFaults(unittest.TestCase):
    def test_what_table_fault_returns_comes_first(self):
        book = EXAMPLE
        right = table(book)
        false = ([(0, 0)], [0], [], [0])
        for wrong in [None, [], {}, 0, {**right, (2, 0): ZERO}, {**right, (0, 0): None}]:
            self.assertEqual(holds_fault(book, [false], wrong), ("form",))
            self.assertEqual(holds_fault(book, [], wrong), ("form",))
        self.assertEqual(holds_fault(book, [false], {**right, (1, 0): ZERO}), ("closed", 1, 0))
        self.assertEqual(holds_fault(book, [], {**right, (0, 0): ZERO}), ("closed", 0, 0))

    def test_equations_come_ahead_of_the_table(self):
        with self.assertRaises(NoEquations) as caught:
            holds_fault(EXAMPLE, [None], None)
        self.assertEqual(caught.exception.index, 0)

    def test_the_first_equation_that_does_not_hold(self):
        right = table(EXAMPLE)
        good = ([(0, 0), (1, 0)], [0, 1], [1, 0], [1])
        bad = ([(0, 0), (1, 0)], [0, 1], [1, 0], [0])
        self.assertIsNone(holds_fault(EXAMPLE, [], right))
        self.assertIsNone(holds_fault(EXAMPLE, [good], right))
        self.assertIsNone(holds_fault(EXAMPLE, [good] * 5, right))
        self.assertEqual(holds_fault(EXAMPLE, [bad], right), ("equation", 0))
        self.assertEqual(holds_fault(EXAMPLE, [good, good, bad, good, bad], right), ("equation", 2))

    def test_the_table_of_the_book_tells_all_equations(self):
        for seed in range(60):
            book = Book(rich_bodies(seed))
            right = table(book)
            equations = some_equations(book, seed, 5)
            holds = [decide(book, equation)[0] == "holds" for equation in equations]
            wanted = ("equation", holds.index(False)) if False in holds else None
            self.assertEqual(holds_fault(book, equations, right), wanted)
            self.assertIsNone(holds_fault(book, [each for each, held in zip(equations, holds) if held], right))

    def test_the_homogeneous_form(self):
        # The basis of this space has a matrix with the first number 0.
        book = Book([[("either", [GO], [("go", 2)])]])
        right = table(book)
        self.assertEqual([row[0] for row in right[0, 0].rows()], [1, 0])
        self.assertIsNone(holds_fault(book, [([(0, 0)], [0], [], [1, 2])], right))
        self.assertEqual(holds_fault(book, [([(0, 0)], [0], [], [0])], right), ("equation", 0))
        # The variable that does not occur on the right side counts there with its first number.
        keys = [(0, 0), (0, 0)]
        self.assertIsNone(holds_fault(book, [(keys, [0, 1], [0], [1, 2]), (keys, [0, 1], [1], [1, 2])], right))
        self.assertIsNone(holds_fault(book, [(keys, [0, 1], [], [1, 2]), (keys, [0, 1], [1, 0], [0, 1, 2])], right))

    def test_first_numbers_that_are_neither_0_nor_1(self):
        scaled = Space([[3 * number for number in matrix_of(TURN)], unit(0, 5)])
        book = Book([[TURN]])
        given = {(0, 0): scaled, (0, 1): ZERO}
        self.assertIsNone(table_fault(book, given))
        for sides in SIDES[1] + SIDES[2]:
            size = 1 if sides in SIDES[1] else 2
            for parts in PARTS:
                equation = ([(0, 0)] * size, *sides, parts)
                wanted = None if all_hold([scaled.rows()] * size, equation) else ("equation", 0)
                self.assertEqual(holds_fault(book, [equation], given), wanted)

    def test_greater_closed_tables(self):
        faults = []
        for seed in range(25):
            bodies = rich_bodies(seed)
            book = Book(bodies)
            rows = {key: space.rows() for key, space in table(book).items()}
            key = keys_of(book)[seed % len(rows)]
            more = [matrix_of(("go", 1)), matrix_of(MARK), unit(0), unit(48), list(COUNTED), list(MIXED)][seed % 6]
            rows = closed(bodies, {**rows, key: canonical([*rows[key], more])})
            if max(len(each) for each in rows.values()) > 12:
                continue
            for equation in some_equations(book, seed, 5):
                holds = all_hold([rows[key] for key in equation[0]], equation)
                found = holds_fault(book, [equation], spaces(rows))
                self.assertEqual(found, None if holds else ("equation", 0))
                if found is None:
                    self.assertEqual(decide(book, equation)[0], "holds")
                faults.append(found)
        self.assertGreater(faults.count(None), 15)
        self.assertGreater(len(faults) - faults.count(None), 15)

    def test_a_greater_table_may_have_a_fault_although_the_equation_holds(self):
        book = Book([[TURN]])
        greater = {(0, 0): Space([matrix_of(TURN), matrix_of(GO)]), (0, 1): ZERO}
        equation = ([(0, 0)], [0], [], [0])
        self.assertEqual(decide(book, equation)[0], "holds")
        self.assertEqual(holds_fault(book, [equation], greater), ("equation", 0))

    def test_all_matrices(self):
        book = Book(rich_bodies(0))
        full = {key: FULL for key in keys_of(book)}
        for word, many in [("home", 1), ("swap", 2), ("undo", 2), ("first", 2), ("last", 2), ("ring", 3)]:
            for parts in PARTS:
                self.assertEqual(holds_fault(book, [named(word, [(0, 0)] * many, parts=parts)], full), ("equation", 0))
        self.assertIsNone(holds_fault(book, [([(0, 0)] * 3, [0, 1, 2], [0, 1, 2], [0, 1, 2])], full))

    def test_the_zero_space_has_no_matrix_to_choose(self):
        book = Book([[GO], [call(1, False, [], [])]])
        right = table(book)
        self.assertIsNone(holds_fault(book, [([(0, 0), (1, 0)], [0], [1], [0])], right))
        self.assertIsNone(holds_fault(book, [([(1, 1)], [0], [], [0])], right))
        # A greater table has a matrix there, and the equation does not hold on it.
        greater = {**right, (1, 0): Space([matrix_of(TURN)])}
        self.assertEqual(holds_fault(book, [([(0, 0), (1, 0)], [0], [1], [0])], greater), ("equation", 0))

    def test_nothing_is_changed(self):
        right = table(EXAMPLE)
        rows = {key: space.rows() for key, space in right.items()}
        equations = [([(0, 0), (1, 0)], [0, 1], [1, 0], [0])]
        holds_fault(EXAMPLE, equations, right)
        self.assertEqual(equations, [([(0, 0), (1, 0)], [0, 1], [1, 0], [0])])
        self.assertEqual({key: space.rows() for key, space in right.items()}, rows)


if __name__ == "__main__":
    unittest.main()
