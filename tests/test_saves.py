"""Tests of penhome.saves: points 2 to 6 and 48 to 50."""

import copy
import random
import unittest
from itertools import combinations

from few import breaks
from making import lists_in, rich_bodies
from penhome.books import Book
from penhome.equations import decide, equation_fault, named
from penhome.errors import NoEquations, TooMany
from penhome.saves import fewest_saves, saves_fault
from penhome.spaces import Space
from samples import BIG, STRANGE
from test_equations import NO_EQUATIONS, some_equations

GO, TURN, MARK = ("go", 1), ("turn", 1), ("mark",)
ZERO = Space([])


def call(procedure, saved, zero, one):
    return ("call", procedure, saved, [zero, one])


EXAMPLE = Book([[GO], [call(0, False, [], []), TURN]])
PLACE = ([(1, 0)], [0], [], [0])

# Three calls a, b and c, each of which moves the pen in a way of its own.
THREE = Book([[("go", 2)], [TURN], [call(0, True, [], []), call(1, False, [], []), call(0, True, [("go", 1)], [])]])
A, B, C = THREE.calls()
ORDER = [[], [A], [B], [C], [A, B], [A, C], [B, C], [A, B, C]]
ENDLESS = call(0, False, [], [])


def choices(book):
    calls = book.calls()
    return [list(choice) for size in range(len(calls) + 1) for choice in combinations(calls, size)]


def book_with(many, saved=False):
    """Make a book with so many calls."""
    return Book([[GO], [call(0, saved, [], [])] * many])


class FewestSaves(unittest.TestCase):
    def check(self, book, equations):
        """Look at each choice alone."""
        before = copy.deepcopy(equations)
        found = fewest_saves(book, equations)
        self.assertEqual(equations, before)
        reasons = []
        wanted = ("none",)
        for choice in choices(book):
            held = [decide(book.saved(choice), equation)[0] == "holds" for equation in equations]
            if all(held):
                wanted = ("saved", choice)
                break
            reasons.append((choice, held.index(False)))
        self.assertEqual(found[:-1], wanted)
        self.assertEqual([(choice, index) for choice, index, _ in found[-1]], reasons)
        for choice, index, runs in found[-1]:
            self.assertTrue(breaks(book.saved(choice), equations[index], runs))
            self.assertIsNone(equation_fault(book.saved(choice), equations[index], runs))
        self.assertEqual([type(item) for item in found], [str, list, list] if found[0] == "saved" else [str, list])
        self.assertTrue(all(type(reason) is tuple for reason in found[-1]))
        self.assertIsNone(saves_fault(book, equations, found))
        return found

    def test_the_example_of_the_document(self):
        self.assertEqual(fewest_saves(EXAMPLE, [PLACE]), ("saved", [(1, (0,))], [([], 0, [[]])]))
        self.check(EXAMPLE, [PLACE])

    def test_the_order_of_the_choices(self):
        # No choice is enough, so each of them has a reason.
        found = self.check(THREE, [([(0, 0)], [0], [], [0])])
        self.assertEqual(found[0], "none")
        self.assertEqual([choice for choice, _, _ in found[1]], ORDER)

    def test_each_choice_may_be_the_first_that_is_enough(self):
        # Only what is called at the places of the choice moves the pen.
        for wanted in ORDER:
            book = Book([[], [GO], [call(int(place in wanted), False, [], []) for place in ORDER[-1]]])
            self.assertEqual(book.calls(), ORDER[-1])
            self.assertEqual(self.check(book, [([(2, 0)], [0], [], [0])])[1], wanted)

    def test_flags_of_the_book_have_no_meaning(self):
        for calls in choices(THREE):
            for equation in [([(2, 0)], [0], [], [0]), ([(2, 0)], [0], [], [1]), named("home", [(0, 0)])]:
                self.assertEqual(fewest_saves(THREE.saved(calls), [equation]), fewest_saves(THREE, [equation]))
        self.assertEqual(fewest_saves(EXAMPLE.saved(EXAMPLE.calls()), [PLACE]), fewest_saves(EXAMPLE, [PLACE]))

    def test_none(self):
        found = fewest_saves(EXAMPLE, [([(0, 0)], [0], [], [0])])
        self.assertEqual(found, ("none", [([], 0, [[]]), ([(1, (0,))], 0, [[]])]))
        self.assertEqual(fewest_saves(Book([[GO]]), [([(0, 0)], [0], [], [0])]), ("none", [([], 0, [[]])]))

    def test_no_equations_and_no_calls(self):
        for book in [EXAMPLE, THREE, Book([[]]), book_with(5)]:
            self.assertEqual(fewest_saves(book, []), ("saved", [], []))
            self.assertIsNone(saves_fault(book, [], ("saved", [], [])))
        self.assertEqual(fewest_saves(Book([[TURN]]), [([(0, 0)], [0], [], [0])]), ("saved", [], []))

    def test_the_first_equation_that_does_not_hold(self):
        good = ([(1, 0)], [0], [], [2])
        heading = ([(1, 0)], [0], [], [1])
        self.assertEqual(fewest_saves(EXAMPLE, [good, good, PLACE]), ("saved", [(1, (0,))], [([], 2, [[]])]))
        self.assertEqual(fewest_saves(EXAMPLE, [good, PLACE, heading]),
                         ("none", [([], 1, [[]]), ([(1, (0,))], 2, [[]])]))
        self.check(EXAMPLE, [good, heading, PLACE])

    def test_made_books(self):
        words = {"saved": 0, "none": 0}
        for seed in range(120):
            book = Book(rich_bodies(seed))
            if len(book.calls()) <= 3:
                words[self.check(book, some_equations(book, seed, 1 + seed % 3))[0]] += 1
        self.assertGreater(min(words.values()), 20)

    def test_five_calls_and_six(self):
        keys = [(1, 0)]
        self.assertEqual(fewest_saves(book_with(5), [(keys, [0], [], [0])])[1], book_with(5).calls())
        self.assertEqual(len(fewest_saves(book_with(5), [(keys, [0], [], [0])])[2]), 31)
        self.assertEqual(len(fewest_saves(book_with(5), [([(0, 0)], [0], [], [0])])[1]), 32)
        for many in (6, 7, 8):
            for saved in (False, True):
                for equations in [[], [(keys, [0], [], [0])]]:
                    with self.assertRaises(TooMany) as caught:
                        fewest_saves(book_with(many, saved), equations)
                    self.assertEqual(caught.exception.many, many)
                    with self.assertRaises(TooMany) as caught:
                        saves_fault(book_with(many, saved), equations, None)
                    self.assertEqual(caught.exception.many, many)

    def test_nothing_is_shared(self):
        equations = [([(1, 0)], [0], [], [0, 1])]
        for book in [EXAMPLE, book_with(3)]:
            first, second = fewest_saves(book, equations), fewest_saves(book, equations)
            found = lists_in([first, second, equations])
            self.assertEqual(len({id(each) for each in found}), len(found))
            for each in lists_in(first):
                each.append(None)
            self.assertEqual(fewest_saves(book, equations), second)
            self.assertEqual(equations, [([(1, 0)], [0], [], [0, 1])])

    def test_keys_that_lose_their_runs_do_not_exist(self):
        # Flags change no way, so a key without runs has none in each choice.
        book = Book([[ENDLESS], [call(0, False, [], [])]])
        self.assertEqual(fewest_saves(book, [named("home", [(1, 0)])]), ("saved", [], []))


class WrongEquations(unittest.TestCase):
    BOOK = Book([[GO], [("end", 1)]])

    def index(self, book, equations, wanted):
        for ask in [lambda: fewest_saves(book, equations), lambda: saves_fault(book, equations, None)]:
            with self.assertRaises(NoEquations) as caught:
                ask()
            self.assertEqual(caught.exception.index, wanted)

    def test_no_equations(self):
        right = ([(0, 0)], [0], [], [0])
        for wrong in [None, True, 0, "", (), {}, right, (right,), {0: right}, ZERO]:
            self.index(self.BOOK, wrong, -1)
        for _, wrong in NO_EQUATIONS:
            self.index(self.BOOK, [wrong], 0)
            self.index(self.BOOK, [right, right, wrong, wrong], 2)

    def test_equations_come_ahead_of_the_number_of_calls(self):
        self.index(book_with(6), None, -1)
        self.index(book_with(6), [PLACE, None], 1)


class SavesFaults(unittest.TestCase):
    # Both calls have to be saved.
    BOOK = Book([[GO], [call(0, False, [], []), call(0, False, [], [])]])
    FIRST, SECOND = BOOK.calls()
    RIGHT = ("saved", [FIRST, SECOND], [([], 0, [[]]), ([FIRST], 0, [[]]), ([SECOND], 0, [[]])])
    # The place of procedure 0 is never kept.
    NONE = ([(0, 0)], [0], [], [0])
    NONE_RIGHT = ("none", [([], 0, [[]]), ([FIRST], 0, [[]]), ([SECOND], 0, [[]]), ([FIRST, SECOND], 0, [[]])])

    def fault(self, thing, wanted, equations=None):
        with self.subTest(thing=thing):
            before = repr(thing)
            found = saves_fault(self.BOOK, [PLACE] if equations is None else equations, thing)
            self.assertEqual(found, wanted)
            self.assertEqual(repr(thing), before)

    def test_right_results(self):
        self.fault(self.RIGHT, None)
        self.fault(self.NONE_RIGHT, None, [self.NONE])
        self.assertEqual(fewest_saves(self.BOOK, [PLACE]), self.RIGHT)
        self.assertEqual(fewest_saves(self.BOOK, [self.NONE]), self.NONE_RIGHT)

    def test_form(self):
        _, calls, reasons = self.RIGHT
        for wrong in [
                *STRANGE, 0, ZERO, "saved", "none", ("saved",), ("none",), ("saved", calls), ("none", calls, reasons),
                ("saved", calls, reasons, []), ["saved", calls, reasons], ["none", reasons], ("Saved", calls, reasons),
                ("None", reasons), (None, reasons), (None, calls, reasons), ("saved", tuple(calls), reasons),
                ("saved", calls, tuple(reasons)), ("none", tuple(reasons)), ("none", None), ("saved", None, []),
                ("saved", [], None), (calls, reasons, "saved"), ("saved", reasons, calls, "none"), ({}, []), ([], []),
                (ZERO, []), (ZERO, [], []), ("saved", ZERO, []), ("none", ZERO), ("none", {}), ("saved", {}, [])]:
            self.fault(wrong, ("form",))

    def test_calls(self):
        first, second = self.FIRST, self.SECOND
        for wrong in [[second, first], [first, first], [None], [0], [first, second, first], [(1, (2,))], [(0, (0,))],
                      [list(first)], [(1, [0])], [first, None], [[]], [[first]], [ZERO], [()], ["call"], [(1, (0, 0))]]:
            for reasons in [self.RIGHT[2], [], [None] * 9]:
                self.fault(("saved", wrong, reasons), ("calls",))

    def test_count(self):
        _, calls, reasons = self.RIGHT
        for wrong in [[], reasons[:1], reasons[:2], [*reasons, reasons[0]], [None], [None] * 4]:
            self.fault(("saved", calls, wrong), ("count",))
        for size, choice in enumerate([[], [self.FIRST], [self.SECOND]]):
            for many in range(5):
                if many != size:
                    self.fault(("saved", choice, [None] * many), ("count",))
        for many in [0, 1, 3, 5]:
            self.fault(("none", (self.NONE_RIGHT[1] * 2)[:many]), ("count",), [self.NONE])

    def test_reasons(self):
        word, calls, reasons = self.RIGHT
        for at in range(3):
            choice = reasons[at][0]
            for wrong in [
                    None, [], (), [choice, 0, [[]]], (choice, 0), (choice, 0, [[]], 0), (None, 0, [[]]),
                    (tuple(choice), 0, [[]]), ([*choice, self.SECOND], 0, [[]]), ([None], 0, [[]]), (calls, 0, [[]]),
                    (choice, 1, [[]]), (choice, -1, [[]]), (choice, False, [[]]), (choice, None, [[]]), (choice, "0", [[]]),
                    (choice, BIG, [[]]), (choice, [0], [[]]), (choice, ZERO, [[]]), (ZERO, 0, [[]]), (choice, 0, ZERO),
                    (choice, 0, []), (choice, 0, [[], []]), (choice, 0, ([],)), (choice, 0, [[0]]), (choice, 0, None),
                    (choice, 0, [None]), (choice, 0, [()]), ZERO, 0, "reason"]:
                self.fault((word, calls, [*reasons[:at], wrong, *reasons[at + 1:]]), ("reason", at))
                self.fault((word, calls, [*reasons[:at], *[wrong] * (3 - at)]), ("reason", at))

    def test_a_reason_must_break_its_equation_in_the_book_of_its_choice(self):
        # Behind a right choice, the runs do not break anything.
        self.fault(("none", [*self.RIGHT[2], ([self.FIRST, self.SECOND], 0, [[]])]), ("reason", 3))
        held = ([(1, 0)], [0], [], [1])
        self.fault(("saved", [self.FIRST], [([], 0, [[]])]), ("reason", 0), [held, PLACE])
        self.fault(("saved", [self.FIRST, self.SECOND], [(choice, 1, runs) for choice, _, runs in self.RIGHT[2]]), None,
                   [held, PLACE])

    def test_the_equation_of_a_reason_need_not_be_the_first(self):
        self.fault(("saved", [self.FIRST, self.SECOND], [(choice, 1, runs) for choice, _, runs in self.RIGHT[2]]), None,
                   [PLACE, PLACE])
        self.fault(("saved", [self.FIRST, self.SECOND], [
            (choice, at % 2, runs) for at, (choice, _, runs) in enumerate(self.RIGHT[2])]), None, [PLACE, PLACE])

    def test_equations_that_do_not_hold_behind_saved(self):
        self.fault(("saved", [], []), ("equation", 0))
        self.fault(("saved", [self.FIRST], self.RIGHT[2][:1]), ("equation", 0))
        self.fault(("saved", [self.SECOND], self.RIGHT[2][:2]), ("equation", 0))
        held = ([(1, 0)], [0], [], [1])
        self.fault(("saved", [], []), ("equation", 2), [held, held, PLACE, PLACE])
        self.fault(self.RIGHT, ("equation", 1), [PLACE, self.NONE])

    def test_a_choice_that_is_enough_but_not_the_first(self):
        held = ([(1, 0)], [0], [], [1])
        self.fault(("saved", [self.FIRST], [([], 0, [[]])]), ("reason", 0), [held])
        self.fault(("saved", [], []), None, [held])
        self.fault(("saved", [self.FIRST], []), ("count",), [held])

    def test_flags_equal_to_their_numbers(self):
        def flagged(call):
            return bool(call[0]), tuple([step if step > 1 else bool(step) for step in call[1]])
        first, second = flagged(self.FIRST), flagged(self.SECOND)
        self.assertEqual(first, self.FIRST)
        self.fault(("saved", [first, second], self.RIGHT[2]), None)
        self.fault(("saved", [first, self.SECOND], [([], 0, [[]]), ([first], 0, [[]]), ([second], 0, [[]])]), None)
        self.fault(("saved", [first, second], [([], False, [[]]), *self.RIGHT[2][1:]]), ("reason", 0))
        self.fault(("saved", [first], [([], 0, [[]])]), ("equation", 0))

    def test_results_of_fewest_saves(self):
        source = random.Random(2)
        spoiled = 0
        for seed in range(60):
            book = Book(rich_bodies(seed))
            if len(book.calls()) > 3:
                continue
            equations = some_equations(book, seed, 2)
            right = fewest_saves(book, equations)
            self.assertIsNone(saves_fault(book, equations, right))
            reasons = right[-1]
            if reasons:
                at = source.randrange(len(reasons))
                choice, index, runs = reasons[at]
                wrong = (*right[:-1], [*reasons[:at], (choice, index, [*runs, []]), *reasons[at + 1:]])
                self.assertEqual(saves_fault(book, equations, wrong), ("reason", at))
                self.assertEqual(saves_fault(book, equations, (*right[:-1], reasons[1:])), ("count",))
                spoiled += 1
        self.assertGreater(spoiled, 15)


if __name__ == "__main__":
    unittest.main()
