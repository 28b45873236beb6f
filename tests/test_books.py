"""Tests of penhome.books: points 2 to 6 and 15 to 18."""

import copy
import unittest

from making import NO_STATEMENTS, SOME_COMMANDS, lists_in, made_bodies, places
from penhome.books import Book
from penhome.errors import NoBook, NoCall, NoPath, NoProcedure
from penhome.spaces import Space
from samples import BIG, COMMANDS, STRANGE

GO = ("go", 1)
CALL = ("call", 0, False, [[], []])

# A book with three procedures and statements at all levels.
GREAT = [
    [
        ("keep", [GO, ("either", [("again", [("end", 1), GO])], [CALL])]),
        ("call", 1, True, [[("call", 2, False, [[], [GO]])], [("end", 0), ("keep", [])]]),
    ],
    [],
    [("either", [], []), ("call", 2, True, [[], []])],
]

GREAT_PATHS = [
    [
        (0,), (0, 0, 0), (0, 0, 1), (0, 0, 1, 0, 0), (0, 0, 1, 0, 0, 0, 0), (0, 0, 1, 0, 0, 0, 1), (0, 0, 1, 1, 0),
        (1,), (1, 0, 0), (1, 0, 0, 1, 0), (1, 1, 0), (1, 1, 1),
    ],
    [],
    [(0,), (1,)],
]

NO_LISTS = [None, True, False, 0, 1, "", "body", (), ((),), ([],), {}, {0: []}]


def great():
    """Return new lists each time."""
    return copy.deepcopy(GREAT)


def wrapped(statements, level):
    """Return a body whose list at the level is the given one, and the path to that list."""
    for number in range(level):
        statements = [[("again", statements)], [("keep", statements)], [("either", [], statements)]][number]
    return statements, {0: (), 1: (0, 0), 2: (0, 0, 0, 0), 3: (0, 1, 0, 0, 0, 0)}[level]


class Faults(unittest.TestCase):
    def check(self, bodies, procedure, path):
        with self.subTest(bodies=bodies):
            with self.assertRaises(NoBook) as caught:
                Book(bodies)
            self.assertEqual((caught.exception.procedure, caught.exception.path), (procedure, path))
            self.assertIs(type(caught.exception.path), tuple)

    def test_examples_of_the_document(self):
        self.check([[("go", 10)]], 0, (0,))
        self.check([[("again", [("go", 1), ("end", 2)])]], 0, (0, 0, 1))
        self.check([[], [("call", 2, True, [[], []])]], 1, (0,))

    def test_bodies_are_a_list_of_one_to_three_items(self):
        for wrong in [*NO_LISTS, [], [[], [], [], []], [[]] * 5, ([],), ([], []), {0: [], 1: []}]:
            self.check(wrong, -1, ())
        self.check([[("go", 10)], 5, [], []], -1, ())
        for many in [1, 2, 3]:
            self.assertEqual(len(Book([[] for _ in range(many)])), many)

    def test_a_body_is_a_list(self):
        for wrong in NO_LISTS:
            self.check([wrong], 0, ())
            self.check([[GO], wrong], 1, ())
            self.check([[], [GO], wrong], 2, ())
            self.check([wrong, wrong, [("go", 10)]], 0, ())
            self.check([[GO, ("go", 10)], wrong], 0, (1,))
            self.check([wrong, [("go", 10)]], 0, ())

    def test_no_statements_at_each_level(self):
        for wrong in NO_STATEMENTS:
            for level in range(4):
                for at in range(3):
                    body, ahead = wrapped([GO] * at + [wrong, GO], level)
                    self.check([body], 0, ahead + (at,))

    def test_a_space_is_no_statement_and_no_part_of_one(self):
        space = Space([])
        for wrong in [space, (space,), ("go", space), ("keep", space), ("either", [], space), ("again", space),
                      ("end", space), ("call", space, True, [[], []]), ("call", 0, space, [[], []]),
                      ("call", 0, True, space), ("call", 0, True, [space, []]), (space, []), (space, [], [])]:
            self.check([[GO, wrong]], 0, (1,))
        self.check(space, -1, ())
        self.check([space], 0, ())

    def test_the_ninth_statement_of_a_list(self):
        for level in range(4):
            for many in [8, 9, 10]:
                body, ahead = wrapped([GO] * many, level)
                if many == 8:
                    self.assertEqual(Book([body]).bodies(), [body])
                else:
                    self.check([body], 0, ahead + (8,))
                    self.check([[], body, [5]], 1, ahead + (8,))

    def test_a_ninth_statement_is_a_fault_ahead_of_those_in_its_blocks(self):
        self.check([[GO] * 8 + [("keep", [5])]], 0, (8,))
        self.check([[GO] * 7 + [("keep", [5]), GO]], 0, (7, 0, 0))

    def test_the_thirteenth_statement_of_a_procedure(self):
        self.check([[GO] * 6 + [("keep", [GO] * 6)]], 0, (6, 0, 5))
        bodies = [[("keep", [GO] * 5), ("again", [GO] * 5)]]
        self.assertEqual(Book(bodies).bodies(), bodies)
        self.check([[("keep", [GO] * 5), ("again", [GO] * 6)]], 0, (1, 0, 5))
        self.check([[("keep", [GO] * 5), ("again", [GO] * 5), GO]], 0, (2,))
        self.check([[("keep", [GO] * 8), GO, GO, GO, ("either", [GO], [GO])]], 0, (4,))
        self.check([[("keep", [GO] * 7), GO, GO, GO, ("either", [GO], [GO])]], 0, (4, 0, 0))
        self.check([[("keep", [GO] * 6), GO, GO, GO, ("either", [GO], [GO])]], 0, (4, 1, 0))
        self.check([[("keep", [GO] * 6), GO, GO, GO, ("call", 0, True, [[GO], [GO]])]], 0, (4, 1, 0))
        self.check([[("again", [("again", [("again", [GO] * 8), GO, GO])])]], 0, (0, 0, 0, 0, 2))

    def test_statements_of_other_procedures_do_not_count(self):
        twelve = [("keep", [GO] * 5), ("again", [GO] * 5)]
        bodies = [twelve, copy.deepcopy(twelve), copy.deepcopy(twelve)]
        self.assertEqual(Book(bodies).bodies(), bodies)
        self.check([twelve, twelve, twelve + [GO]], 2, (2,))

    def test_deep_statements_count_too(self):
        body = [("again", [("either", [("keep", [GO] * 4)], [GO, GO, GO])]), GO]
        self.assertEqual(Book([body]).bodies(), [body])
        self.check([[*body, GO, GO]], 0, (3,))
        self.check([[("again", [("either", [("keep", [GO] * 8)], [GO, GO])])]], 0, (0, 0, 0, 1, 1))

    def test_no_blocks_at_level_3(self):
        for wrong in [("keep", []), ("again", []), ("either", [], []), ("call", 0, True, [[], []]), ("keep", [5])]:
            body, ahead = wrapped([GO, wrong], 3)
            self.check([body], 0, ahead + (1,))
            body, ahead = wrapped([GO, wrong], 2)
            if wrong == ("keep", [5]):
                self.check([body], 0, ahead + (1, 0, 0))
            else:
                self.assertEqual(Book([body]).bodies(), [body])
        for right in [*SOME_COMMANDS, ("end", 0), ("end", 1)]:
            body, _ = wrapped([right], 3)
            self.assertEqual(Book([body]).bodies(), [body])

    def test_a_list_in_itself_is_too_deep(self):
        block = []
        block.append(("keep", block))
        self.check([block], 0, (0, 0, 0, 0, 0, 0, 0))

    def test_calls_name_a_procedure_of_the_book(self):
        for many in [1, 2, 3]:
            for called in range(-2, 5):
                bodies = [[] for _ in range(many - 1)] + [[GO, ("call", called, False, [[], []])]]
                if 0 <= called < many:
                    self.assertEqual(Book(bodies).bodies(), bodies)
                else:
                    self.check(bodies, many - 1, (1,))

    def test_the_first_of_two_faults(self):
        self.check([[("either", [GO, 5], [6]), 7]], 0, (0, 0, 1))
        self.check([[("either", [GO], [6]), 7]], 0, (0, 1, 0))
        self.check([[("either", [GO], []), 7]], 0, (1,))
        self.check([[("call", 0, True, [[GO], [GO, GO, 5]]), ("end", 2)]], 0, (0, 1, 2))
        self.check([[("call", 0, 1, [[5], [5]])]], 0, (0,))
        self.check([[GO], [("keep", [("end", 2)])], 5], 1, (0, 0, 0))
        self.check([[GO], 5, [("keep", [("end", 2)])]], 1, ())
        self.check([[GO] * 9, [GO] * 9], 0, (8,))
        self.check([[GO] * 3 + [5] + [GO] * 5], 0, (3,))
        self.check([[("keep", [GO] * 8), ("keep", [GO] * 8)]], 0, (1, 0, 2))
        self.check([[("keep", [GO] * 8), ("keep", [GO, 5] + [GO] * 6)]], 0, (1, 0, 1))
        self.check([[("keep", [GO] * 8), ("keep", [GO, GO, 5] + [GO] * 6)]], 0, (1, 0, 2))

    def test_any_fault_in_any_book(self):
        wrong = [5, ("go", 10), ("end", 2), ("keep", ()), ("either", []), ("call", 3, True, [[], []]), [], None]
        for seed in range(150):
            found = places(made_bodies(seed))
            for number in range(len(found)):
                bodies = made_bodies(seed)
                procedure, path, _, block = places(bodies)[number]
                block[path[-1]] = wrong[(seed + number) % len(wrong)]
                self.check(bodies, procedure, path)

    def test_two_faults_in_any_book(self):
        for seed in range(60):
            many = len(places(made_bodies(seed)))
            for number in range(0, many, 2):
                bodies = made_bodies(seed)
                found = places(bodies)
                procedure, path, statement, block = found[number]
                for _, later, _, where in found[number + 1:]:
                    where[later[-1]] = ("end", True)
                if statement[0] in ("keep", "either", "again", "call"):
                    # The faults in the blocks come behind the statement itself.
                    block[path[-1]] = (*statement, None)
                else:
                    block[path[-1]] = ("aim", 1)
                self.check(bodies, procedure, path)


class Right(unittest.TestCase):
    def test_every_command_is_a_statement(self):
        for command in COMMANDS:
            self.assertEqual(Book([[command]]).bodies(), [[command]])

    def test_statements_behind_an_end_are_allowed(self):
        bodies = [[("end", 0), ("end", 1), GO, ("keep", [("end", 1), GO])]]
        self.assertEqual(Book(bodies).bodies(), bodies)

    def test_made_books(self):
        for seed in range(200):
            bodies = made_bodies(seed)
            book = Book(bodies)
            self.assertEqual(book.bodies(), made_bodies(seed))
            self.assertEqual(bodies, made_bodies(seed))
            self.assertEqual(len(book), len(bodies))
            self.assertIs(type(book.bodies()), list)

    def test_books_are_equal_if_their_bodies_are(self):
        for seed in range(100):
            for other in range(100):
                equal = made_bodies(seed) == made_bodies(other)
                self.assertIs(Book(made_bodies(seed)) == Book(made_bodies(other)), equal)
                self.assertIs(Book(made_bodies(seed)) != Book(made_bodies(other)), not equal)
        self.assertNotEqual(Book([[]]), Book([[], []]))
        self.assertNotEqual(Book([[CALL]]), Book([[("call", 0, True, [[], []])]]))
        self.assertNotEqual(Book([[], [("end", 0)]]), Book([[("end", 0)], []]))
        self.assertNotEqual(Book([[("end", 0)]]), Book([[("end", 1)]]))


class Statements(unittest.TestCase):
    def test_a_book_is_asked_for_a_pair(self):
        for wrong in [0, None, (), (0,), (0, (0,), 0), [0, (0,)]]:
            with self.assertRaises(NoProcedure):
                Book([[GO]])[wrong]

    def test_paths_of_a_book(self):
        book = Book(great())
        self.assertEqual(
            [(procedure, path) for procedure, path, _, _ in places(great())],
            [(procedure, path) for procedure, paths in enumerate(GREAT_PATHS) for path in paths])
        self.assertEqual(book[0, (0, 0, 1, 0, 0, 0, 0)], ("end", 1))
        self.assertEqual(book[0, (0, 0, 1, 1, 0)], CALL)
        self.assertEqual(book[0, (1, 0, 0, 1, 0)], GO)
        self.assertEqual(book[0, (1, 1, 1)], ("keep", []))
        self.assertEqual(book[2, (1,)], ("call", 2, True, [[], []]))
        self.assertEqual(book[0, (0,)], great()[0][0])
        self.assertEqual(book[(2, (0,))], ("either", [], []))

    def test_every_statement_of_made_books(self):
        for seed in range(100):
            bodies = made_bodies(seed)
            book = Book(bodies)
            for procedure, path, statement, _ in places(bodies):
                found = book[procedure, path]
                self.assertEqual(found, statement)
                self.assertIs(type(found), tuple)
                self.assertIn((procedure, path), book)

    def near(self, path):
        """List tuples close to a path."""
        found = [path[:size] for size in range(len(path))]
        found += [path + (step,) for step in [-1, 0, 1]] + [path + (0, step) for step in [-1, 0, 1, 8]]
        for at in range(len(path)):
            for step in [-9, -2, -1, 0, 1, 2, 3, 8, BIG, -BIG]:
                found.append(path[:at] + (step,) + path[at + 1:])
        return found

    def test_tuples_of_integers_close_to_a_path(self):
        for seed in range(40):
            bodies = made_bodies(seed)
            book = Book(bodies)
            right = {(procedure, path): statement for procedure, path, statement, _ in places(bodies)}
            for procedure, path in list(right):
                for other in self.near(path):
                    self.assertIs((procedure, other) in book, (procedure, other) in right)
                    if (procedure, other) in right:
                        self.assertEqual(book[procedure, other], right[procedure, other])
                    else:
                        with self.assertRaises(NoPath):
                            book[procedure, other]

    def test_no_paths(self):
        book = Book(great())
        wrong = [
            *[thing for thing in STRANGE if thing != (1,)],
            0, 1, (True,), (False,), (0, False, 0), (0, 0, True), (False, 0, 0), [0], [0, 0, 0], "0", "00 ",
            (None,), ("0",), ((0,),), ([0],), ({},), (0, [], 0), (0, None, 0), (0, 0), (0, 0, 0, 0), (), (2,),
            Space([]), (Space([]),), (0, Space([]), 0), {0: 0},
        ]
        for path in wrong:
            with self.subTest(path=path):
                with self.assertRaises(NoPath):
                    book[0, path]
                self.assertIs((0, path) in book, False)

    def test_no_procedures_come_ahead_of_no_paths(self):
        for many in [1, 2, 3]:
            book = Book([[GO] for _ in range(many)])
            for wrong in [*STRANGE, -1, -2, many, many + 1, BIG, -BIG, Space([]), ((0,),)]:
                for path in [(0,), (1,), (), None, True]:
                    with self.subTest(procedure=wrong, path=path):
                        with self.assertRaises(NoProcedure):
                            book[wrong, path]
                        self.assertIs((wrong, path) in book, False)

    def test_membership_of_any_value(self):
        book = Book(great())
        for wrong in [
                *STRANGE, 0, 1, (0,), (0, 0), [0, (0,)], (0, [0]), (0, (0,), 0), ((0,), 0), ((0, (0,)),), (True, (0,)),
                (False, (0,)), (0, (0,), None), {0: (0,)}, Space([]), (Space([]), (0,)), [[(0, (0,))]], "0 (0,)",
                (1, (0,)), (3, (0,)), (-1, (0,)), (-3, (0,)), (2, (-1,)), BIG, (BIG, (0,)), (0, (BIG,))]:
            with self.subTest(value=wrong):
                self.assertIs(wrong in book, False)
                self.assertIs(wrong not in book, True)
        self.assertIs((0, (0,)) in book, True)
        self.assertIs((2, (1,)) in book, True)


class Calls(unittest.TestCase):
    # Four calls, in reading order.
    BODIES = [
        [("either", [("call", 1, True, [[("call", 0, False, [[], []])], [GO]])], []), CALL],
        [GO, ("again", [("keep", [("call", 1, False, [[], [("end", 1)]])])])],
    ]
    CALLS = [(0, (0, 0, 0)), (0, (0, 0, 0, 0, 0)), (0, (1,)), (1, (1, 0, 0, 0, 0))]

    def test_calls_in_reading_order(self):
        self.assertEqual(Book(self.BODIES).calls(), self.CALLS)
        self.assertEqual(Book([[], [GO]]).calls(), [])
        for seed in range(200):
            bodies = made_bodies(seed)
            calls = [(procedure, path) for procedure, path, statement, _ in places(bodies) if statement[0] == "call"]
            self.assertEqual(Book(bodies).calls(), calls)
            for procedure, path in Book(bodies).calls():
                self.assertIs(type(path), tuple)

    def check(self, bodies, calls, wanted):
        """Check that exactly the wanted calls have the flag True, and nothing else is another."""
        book = Book(bodies)
        saved = book.saved(calls)
        self.assertIsInstance(saved, Book)
        self.assertEqual(len(saved), len(book))
        before, behind = places(bodies), places(saved.bodies())
        self.assertEqual([place[:2] for place in before], [place[:2] for place in behind])
        for (procedure, path, one, _), (_, _, other, _) in zip(before, behind):
            if one[0] == "call":
                self.assertIs(other[2], (procedure, path) in wanted)
                self.assertEqual((other[:2], len(other), len(other[3])), (one[:2], 4, 2))
            elif one[0] in ("keep", "either", "again"):
                self.assertEqual((other[0], len(other)), (one[0], len(one)))
            else:
                self.assertEqual(other, one)
        self.assertEqual(book, Book(bodies))

    def test_every_choice_of_calls(self):
        for choice in range(16):
            calls = [call for at, call in enumerate(self.CALLS) if choice >> at & 1]
            self.check(self.BODIES, calls, calls)
            self.check(self.BODIES, calls[::-1], calls)

    def test_choices_in_made_books(self):
        for seed in range(100):
            bodies = made_bodies(seed)
            calls = Book(bodies).calls()
            for some in [[], calls, calls[::-1], calls[::2], calls[1::2], calls[:1], calls[-1:]]:
                self.check(bodies, some, list(some))

    def test_the_whole_book_by_hand(self):
        book = Book(self.BODIES).saved([(1, (1, 0, 0, 0, 0)), (0, (0, 0, 0, 0, 0))])
        self.assertEqual(book, Book([
            [("either", [("call", 1, False, [[("call", 0, True, [[], []])], [GO]])], []), CALL],
            [GO, ("again", [("keep", [("call", 1, True, [[], [("end", 1)]])])])],
        ]))

    def test_items_are_compared_by_equality(self):
        for call in [(False, (0, 0, 0)), (0, (False, 0, False)), (False, (True,)), (True, (1, 0, False, 0, 0))]:
            calls = [call]
            wanted = [call for call in self.CALLS if call in calls]
            self.assertEqual(len(wanted), 1)
            self.check(self.BODIES, calls, wanted)

    def fault(self, calls, index):
        with self.subTest(calls=calls):
            with self.assertRaises(NoCall) as caught:
                Book(self.BODIES).saved(calls)
            self.assertEqual(caught.exception.index, index)

    def test_no_lists(self):
        for wrong in [*NO_LISTS, (0, (1,)), tuple(self.CALLS), {(0, (1,)): 1}, Space([])]:
            self.fault(wrong, -1)

    def test_no_calls(self):
        one, two, three, four = self.CALLS
        for wrong in [
                *STRANGE, 0, [0, (1,)], (0, [1]), (0, (0,)), (0, (2,)), (1, (1,)), (2, (1,)), (-1, (1,)), (0, (-1,)),
                (0, (1,), 0), (0,), (0, 1), ((0, (1,)),), [one], Space([]), (Space([]), (1,)), (BIG, (1,)), (0, ())]:
            self.fault([wrong], 0)
            self.fault([four, two, wrong], 2)
            self.fault([wrong, wrong], 0)
            self.fault([one, wrong, one], 1)

    def test_duplicates(self):
        one, two, three, four = self.CALLS
        self.fault([one, one], 1)
        self.fault([one, two, three, four, two], 4)
        self.fault([four, two, four, two, None], 2)
        self.fault([three, (False, (True,))], 1)
        self.fault([(False, (True,)), one, three, None], 2)

    def test_calls_are_those_of_the_whole_book(self):
        with self.assertRaises(NoCall) as caught:
            Book([[GO]]).saved([(0, (0,))])
        self.assertEqual(caught.exception.index, 0)
        self.assertEqual(Book([[GO]]).saved([]), Book([[GO]]))


class Copies(unittest.TestCase):
    def spoil(self, thing):
        """Change every list in a value."""
        for each in lists_in(thing):
            each.append(("spoiled",))

    def test_a_book_has_its_own_copy(self):
        bodies = great()
        book = Book(bodies)
        self.spoil(bodies)
        self.assertEqual(book.bodies(), great())
        self.assertEqual(book, Book(great()))

    def test_one_list_at_several_places(self):
        block = [GO]
        bodies = [[("either", block, block), ("call", 0, True, [block, block])], block, block]
        book = Book(bodies)
        block.append(GO)
        right = [[("either", [GO], [GO]), ("call", 0, True, [[GO], [GO]])], [GO], [GO]]
        self.assertEqual(book.bodies(), right)
        found = lists_in(book.bodies())
        self.assertEqual(len({id(each) for each in found}), len(found))

    def test_what_is_returned_is_new(self):
        book = Book(great())
        self.spoil(book.bodies())
        self.spoil(book[0, (0,)])
        self.spoil(book[0, (1,)])
        self.spoil(book[2, (1,)])
        self.spoil(book.calls())
        self.spoil(book.saved([]).bodies())
        self.assertEqual(book.bodies(), great())
        self.assertEqual(book.calls(), Book(great()).calls())
        self.assertEqual(book[0, (1,)], great()[0][1])

    def test_no_list_is_returned_twice(self):
        book = Book(great())
        answers = [
            book.bodies(), book.bodies(), book[0, (0,)], book[0, (0,)], book[0, (1,)], book[0, (1,)], book.calls(),
            book.calls(), book.saved([]).bodies()]
        found = [each for answer in answers for each in lists_in(answer)]
        self.assertEqual(len({id(each) for each in found}), len(found))

    def test_a_saved_book_is_another_one(self):
        book = Book(great())
        saved = book.saved(book.calls())
        self.assertEqual(book, Book(great()))
        self.assertNotEqual(saved, book)
        self.assertEqual(saved.saved([(0, (1,)), (2, (1,))]), book)

    def test_arguments_do_not_change(self):
        for seed in range(50):
            bodies = made_bodies(seed)
            book = Book(bodies)
            calls = book.calls()[::-1]
            before = list(calls)
            book.saved(calls)
            self.assertEqual((bodies, calls), (made_bodies(seed), before))
        wrong = [[GO, ("keep", [GO, ("end", 2)])]]
        with self.assertRaises(NoBook):
            Book(wrong)
        self.assertEqual(wrong, [[GO, ("keep", [GO, ("end", 2)])]])
        wrong = [(0, (5,)), None]
        with self.assertRaises(NoCall):
            book.saved(wrong)
        self.assertEqual(wrong, [(0, (5,)), None])
