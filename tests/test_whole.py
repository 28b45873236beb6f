"""Tests of the whole program: points 2 to 6, 59 and 60, and the examples of README.md."""

import ast
import copy
import pathlib
import re
import types
import unittest
from itertools import zip_longest

from making import lists_in, rich_bodies
from penhome import algebra, books, equations, errors, live, matrices, pens, runs, saves, spaces, swaps, tables, texts
from penhome.books import Book
from penhome.pens import HOME
from penhome.spaces import Space
from samples import PENS

README = pathlib.Path(__file__).resolve().parent.parent / "README.md"

# Each name of the interface, under its module.
NAMES = {
    pens: ["HOME", "moved"],
    matrices: ["vector", "matrix_of", "applied", "composed", "kept_matrix"],
    books: ["Book"],
    runs: ["ran", "trace", "run_matrix"],
    spaces: ["Space"],
    tables: ["table", "body_space", "table_fault", "basis_runs"],
    equations: ["decide", "equation_fault", "holds_fault", "named"],
    algebra: ["equations_of", "rounds", "breaking_round"],
    saves: ["fewest_saves", "saves_fault"],
    swaps: ["can_swap", "swap_runs", "swapped"],
    live: ["Live"],
    texts: ["book_text", "read_book"],
    errors: ["HomeError", "NoPen", "NoCommand", "NoProcedure", "NoWay", "NoPath", "NoTable", "NoVariables", "NoCount",
             "NoPart", "NoNumber", "NoBook", "NoCall", "NoRun", "NoRows", "NoEquations", "NoEquation", "TooMany", "NoText"],
}

EITHER = ("either", [("go", 1)], [("turn", 1), ("mark",)])
ONE = [
    [EITHER, ("call", 1, False, [[], [("go", 2)]])],
    [("either", [("scale", 2)], [("exchange",), ("end", 1)]), ("keep", [("go", 1), ("mark",)])],
]
TWO = [
    [EITHER, ("call", 0, True, [[], []])],
    [("either", [("end", 1)], [("call", 1, True, [[("mirror",)], [("go", 3), ("turn", 2)]])]), ("go", 1)],
]


def frozen(thing):
    """Return a value that tells what another one is, and does not change with it."""
    if isinstance(thing, Space):
        return ("space", frozen(thing.rows()))
    if isinstance(thing, Book):
        return ("book", frozen(thing.bodies()))
    if isinstance(thing, dict):
        return ("dict", tuple(sorted((frozen(key), frozen(value)) for key, value in thing.items())))
    if isinstance(thing, (list, tuple)):
        return (type(thing).__name__, tuple(frozen(item) for item in thing))
    return (type(thing).__name__, repr(thing))


def spoil(thing):
    """Change all lists and dicts in a value."""
    for each in lists_in(thing):
        each.append("spoiled")
    for each in thing if isinstance(thing, tuple) else [thing]:
        if isinstance(each, dict):
            each.clear()


def questions(book):
    """List functions without arguments that each ask something about a book."""
    keys = [(procedure, way) for procedure in range(len(book)) for way in (0, 1)]
    given = tables.table(book)
    asked = [equations.named("swap", [keys[0], keys[-1]]), equations.named("home", [keys[0]], parts=[1]),
             ([keys[0], keys[0]], [0], [1], [2]), ([keys[-1]], [0], [0], [0, 1, 2])]
    found = [
        lambda: book.bodies(), lambda: book.calls(), lambda: book.saved(book.calls()[:1]), lambda: len(book),
        lambda: tables.table(book), lambda: tables.table_fault(book, given), lambda: texts.book_text(book),
        lambda: texts.read_book(texts.book_text(book)), lambda: equations.holds_fault(book, asked, given),
        lambda: saves.fewest_saves(book, asked), lambda: saves.fewest_saves(book, asked[3:]),
        lambda: saves.saves_fault(book, asked, saves.fewest_saves(book, asked)),
        lambda: swaps.can_swap(book, 0, (0,)), lambda: swaps.swap_runs(book, 0, (0,)),
        lambda: swaps.swapped(book, 0, (0,)), lambda: book[0, (0,)], lambda: book[0, (1,)],
    ]
    for key in keys:
        found += [
            lambda key=key: tables.basis_runs(book, *key), lambda key=key: tables.body_space(book, given, *key),
            lambda key=key: algebra.rounds(book, *key), lambda key=key: algebra.breaking_round(book, *key, count=3),
            lambda key=key: algebra.equations_of(book, [key]), lambda key=key: algebra.equations_of(book, [key, keys[0]]),
        ]
        for bits in tables.basis_runs(book, *key)[:3]:
            found += [
                lambda key=key, bits=bits: runs.ran(book, key[0], bits, pen=PENS[2]),
                lambda key=key, bits=bits: list(runs.trace(book, key[0], bits)),
                lambda key=key, bits=bits: runs.run_matrix(book, key[0], bits),
            ]
    for equation in asked:
        found += [
            lambda equation=equation: equations.decide(book, equation),
            lambda equation=equation: equations.equation_fault(book, equation, [[0]] * len(equation[0])),
        ]
    return found


class SideBySide(unittest.TestCase):
    def pairs(self):
        yield ONE, TWO
        yield rich_bodies(4), rich_bodies(7)

    def test_two_books_asked_by_turns(self):
        for first, second in self.pairs():
            one, other = Book(first), Book(second)
            before = copy.deepcopy((first, second))
            asked = [question for pair in zip_longest(questions(one), questions(other))
                     for question in pair if question is not None]
            answers = []
            for question in asked:
                told = question()
                answers.append(frozen(told))
                spoil(told)
            for _ in range(2):
                for question, wanted in zip(asked, answers):
                    told = question()
                    self.assertEqual(frozen(told), wanted)
                    spoil(told)
            self.assertEqual((first, second), before)
            self.assertEqual((one.bodies(), other.bodies()), before)

    def test_no_two_lists_of_one_answer_are_the_same(self):
        for bodies in [ONE, TWO, rich_bodies(4), rich_bodies(11)]:
            book = Book(bodies)
            for question in questions(book):
                told, again = question(), question()
                found = lists_in([told, again])
                self.assertEqual(len({id(each) for each in found}), len(found))
                if isinstance(told, dict):
                    self.assertIsNot(told, again)

    def test_answers_do_not_depend_on_what_was_asked_before(self):
        fresh = [frozen(question()) for question in questions(Book(ONE))]
        used = Book(ONE)
        for question in questions(used):
            question()
        for question in questions(Book(TWO)):
            question()
        self.assertEqual([frozen(question()) for question in questions(used)], fresh)

    def test_two_traces_at_once(self):
        one, other = Book(ONE), Book(TWO)
        bits = [tables.basis_runs(book, 0, way)[0] for book, way in [(one, 0), (one, 0)]]
        wanted = list(runs.trace(one, 0, bits[0]))
        first, second = runs.trace(one, 0, bits[0]), runs.trace(one, 0, bits[1])
        found = []
        for pen in first:
            found.append((pen, next(second)))
            tables.table(other)
        self.assertEqual(found, [(pen, pen) for pen in wanted])

    def test_two_pens_that_live_side_by_side(self):
        bits = tables.basis_runs(Book(ONE), 0, 0)[0]
        one, other = live.Live(Book(ONE)), live.Live(Book(ONE), pen=PENS[2])
        for _ in range(3):
            one(0, bits)
            other += ("go", 1)
            one[2] = (7, 7)
            other.kept(lambda pen: one(0, bits))
        self.assertEqual(other.pen, (1 + 3 * 3, 2 + 3 * 4, 3, 4, 5, 6))
        wanted = live.Live(Book(ONE))
        for _ in range(3):
            wanted(0, bits)
            wanted[2] = (7, 7)
            wanted(0, bits)
        self.assertEqual(one, wanted)


class Names(unittest.TestCase):
    def test_each_name_is_imported_from_its_module(self):
        for module, names in NAMES.items():
            for name in names:
                found = getattr(module, name)
                if name != "HOME":
                    self.assertEqual(found.__module__, module.__name__)
                    self.assertIsInstance(found, (types.FunctionType, type))
        self.assertEqual((pens.HOME, type(pens.HOME)), ((0, 0, 1, 0, 0, 0), tuple))

    def test_methods_stand_in_their_classes(self):
        for kind, names in [
                (Book, "__init__ __len__ bodies __getitem__ __contains__ calls saved __eq__"),
                (Space, "__init__ rows __len__ __contains__ __add__ __mul__ kept __eq__"),
                (live.Live, "__init__ pen __getitem__ __setitem__ __iadd__ __call__ kept __eq__")]:
            for name in names.split():
                self.assertIn(name, vars(kind))
        self.assertIsInstance(vars(live.Live)["pen"], property)

    def test_errors_are_caught_as_errors_of_the_program_and_as_no_others(self):
        raised = [
            (errors.NoPen, lambda: pens.moved(None, ("mark",))), (errors.NoCommand, lambda: pens.moved(HOME, None)),
            (errors.NoProcedure, lambda: tables.basis_runs(Book([[]]), 1, 0)),
            (errors.NoWay, lambda: tables.basis_runs(Book([[]]), 0, 2)), (errors.NoPath, lambda: Book([[]])[0, (0,)]),
            (errors.NoTable, lambda: tables.body_space(Book([[]]), {}, 0, 0)),
            (errors.NoVariables, lambda: algebra.equations_of(Book([[]]), [])),
            (errors.NoCount, lambda: algebra.breaking_round(Book([[]]), 0, 0, count=7)),
            (errors.NoPart, lambda: live.Live(Book([[]]))[3]),
            (errors.NoNumber, lambda: live.Live(Book([[]])).__setitem__(0, None)), (errors.NoBook, lambda: Book(None)),
            (errors.NoCall, lambda: Book([[]]).saved(None)), (errors.NoRun, lambda: runs.ran(Book([[]]), 0, None)),
            (errors.NoRows, lambda: Space(None)),
            (errors.NoEquations, lambda: equations.holds_fault(Book([[]]), None, None)),
            (errors.NoEquation, lambda: equations.decide(Book([[]]), None)),
            (errors.TooMany, lambda: saves.fewest_saves(Book([[("call", 0, True, [[], []])] * 6]), [])),
            (errors.NoText, lambda: texts.read_book("")),
        ]
        self.assertEqual(len(raised), len(NAMES[errors]) - 1)
        for kind, ask in raised:
            with self.assertRaises(errors.HomeError) as caught:
                ask()
            self.assertIs(type(caught.exception), kind)
            self.assertIsInstance(caught.exception, ValueError)
            self.assertEqual([other for other, _ in raised if isinstance(caught.exception, other)], [kind])


class Readme(unittest.TestCase):
    def test_the_examples(self):
        text = "\n".join(re.findall("```python\n(.*?)```", README.read_text(), re.DOTALL))
        told, checked = [], 0
        names = {"print": told.append}
        for node in ast.parse(text).body:
            if not isinstance(node, ast.Expr):
                exec(compile(ast.Module([node], []), "README.md", "exec"), names)
                continue
            value = eval(compile(ast.Expression(node.value), "README.md", "eval"), names)
            remark = text.split("\n")[node.end_lineno - 1][node.end_col_offset:].strip().lstrip("# ")
            wanted = self.literal(remark)
            if wanted is not None:
                self.assertEqual(value, wanted[0], remark)
                checked += 1
        self.assertGreater(checked, 20)
        self.assertEqual(told, ["to 0\n  go 1\nto 1\n  call 0\n  way 0\n  way 1\n  turn 1"])

    def literal(self, remark):
        """Return the value with which a remark begins, in a list, or None."""
        for part in [remark, remark.partition(":")[0], remark.partition(", at")[0]]:
            try:
                return [ast.literal_eval(part)]
            except (ValueError, SyntaxError):
                pass
        return None


if __name__ == "__main__":
    unittest.main()
