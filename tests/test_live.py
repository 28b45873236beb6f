"""Tests of penhome.live: points 2 to 6 and 56."""

import unittest

from making import rich_bodies
from few import few_runs
from penhome.books import Book
from penhome.errors import HomeError, NoCommand, NoNumber, NoPart, NoPen, NoProcedure, NoRun
from penhome.live import Live
from penhome.pens import HOME, moved
from penhome.runs import ran
from penhome.spaces import Space
from samples import BIG, COMMANDS, NO_COMMANDS, NO_PENS, OTHER_BIG, PENS, STRANGE

GO, TURN, MARK = ("go", 1), ("turn", 1), ("mark",)
BOOK = Book([
    [("either", [GO], [TURN, ("end", 1)])],
    [("go", 2), ("call", 0, True, [[MARK], [("exchange",)]])],
    [("call", 2, False, [[], []])],
])
ZERO = Space([])


class Oops(Exception):
    """An error that a function of a test raises."""


class Pens(unittest.TestCase):
    def test_the_pen_at_the_start(self):
        self.assertEqual(Live(BOOK).pen, HOME)
        for pen in PENS:
            live = Live(BOOK, pen=pen)
            self.assertEqual(live.pen, pen)
            self.assertIs(type(live.pen), tuple)
            self.assertEqual([type(number) for number in live.pen], [int] * 6)

    def test_no_pen(self):
        for wrong in [*NO_PENS, ZERO, BOOK.bodies()]:
            with self.assertRaises(NoPen):
                Live(BOOK, pen=wrong)

    def test_the_pen_is_passed_by_keyword_alone(self):
        with self.assertRaises(TypeError):
            Live(BOOK, HOME)

    def test_each_has_a_pen_of_its_own(self):
        one, other = Live(BOOK), Live(BOOK)
        one += ("go", 5)
        self.assertEqual((one.pen, other.pen), ((5, 0, 1, 0, 0, 0), HOME))


class Parts(unittest.TestCase):
    def test_reading(self):
        for pen in PENS:
            live = Live(BOOK, pen=pen)
            for part in range(3):
                self.assertEqual(live[part], pen[2 * part:2 * part + 2])
                self.assertIs(type(live[part]), tuple)
            self.assertEqual(live.pen, pen)

    def test_setting(self):
        for pair in [(0, 0), (3, -4), (BIG, OTHER_BIG), (-BIG, 0)]:
            for part in range(3):
                for pen in PENS:
                    live = Live(BOOK, pen=pen)
                    live[part] = pair
                    self.assertEqual(live.pen, pen[:2 * part] + pair + pen[2 * part + 2:])
                    self.assertEqual(live[part], pair)

    def test_no_part(self):
        live = Live(BOOK, pen=PENS[2])
        for wrong in [*STRANGE, 3, -1, -3, BIG, -BIG, ZERO, (0,), [0], "0"]:
            with self.assertRaises(NoPart):
                live[wrong]
            for worth in [(1, 2), None]:
                with self.assertRaises(NoPart):
                    live[wrong] = worth
        with self.assertRaises(NoPart):
            live[0:1]
        self.assertEqual(live.pen, PENS[2])

    def test_no_number(self):
        live = Live(BOOK, pen=PENS[2])
        for wrong in [None, True, 0, 7, "", "12", [], [1, 2], (), (1,), (1, 2, 3), (True, 1), (1, False), (None, 1), ("1", 2),
                      (1, "2"), ((1, 2),), ([1], 2), (1, (2,)), {}, {1: 2}, ZERO, (ZERO, 1)]:
            for part in range(3):
                with self.assertRaises(NoNumber):
                    live[part] = wrong
        self.assertEqual(live.pen, PENS[2])


class Commands(unittest.TestCase):
    def test_each_command(self):
        for pen in PENS:
            for command in COMMANDS[:30] + COMMANDS[30::23] + COMMANDS[-5:]:
                live = Live(BOOK, pen=pen)
                live += command
                self.assertEqual(live.pen, moved(pen, command))

    def test_the_name_stands_for_the_same_object(self):
        live = Live(BOOK)
        other = live
        live += ("go", 3)
        self.assertIs(live, other)
        live += MARK
        self.assertIs(live, other)
        self.assertEqual(other.pen, (3, 0, 1, 0, 3, 0))
        held = [live]
        held[0] += TURN
        self.assertIs(held[0], live)

    def test_no_command(self):
        live = Live(BOOK, pen=PENS[3])
        other = live
        for wrong in [*NO_COMMANDS, ("end", 0), ("keep", []), BOOK.bodies(), ZERO]:
            with self.assertRaises(NoCommand):
                live += wrong
        self.assertIs(live, other)
        self.assertEqual(live.pen, PENS[3])


class Calls(unittest.TestCase):
    def test_runs(self):
        live = Live(BOOK)
        self.assertEqual(live(0, [0]), 0)
        self.assertEqual(live.pen, (1, 0, 1, 0, 0, 0))
        self.assertEqual(live(0, [1]), 1)
        self.assertEqual(live.pen, (1, 0, 0, 1, 0, 0))
        self.assertEqual(live(1, [0]), 0)
        self.assertEqual(live.pen, (1, 2, 0, 1, 1, 2))
        self.assertEqual(live(1, [1]), 0)
        self.assertEqual(live.pen, (1, 2, 0, 1, 1, 4))
        self.assertEqual(live(procedure=0, bits=[0]), 0)
        self.assertEqual(live.pen, (1, 3, 0, 1, 1, 4))

    def test_made_books(self):
        for seed in range(40):
            book = Book(rich_bodies(seed))
            live = Live(book, pen=PENS[seed % len(PENS)])
            for procedure in range(len(book)):
                for bits, way, _, _ in few_runs(book.bodies(), procedure, 4)[:5]:
                    wanted = ran(book, procedure, bits, pen=live.pen)
                    self.assertEqual(live(procedure, bits), way)
                    self.assertEqual(live.pen, wanted[1])

    def test_no_procedure_and_no_run(self):
        live = Live(BOOK, pen=PENS[6])
        for wrong in [*STRANGE, 3, -1, BIG, ZERO]:
            for bits in [[0], None]:
                with self.assertRaises(NoProcedure):
                    live(wrong, bits)
        for procedure, bits, index in [(0, None, -1), (0, (0,), -1), (0, [], 0), (0, [2], 0), (0, [True], 0), (0, [0, 1], 1),
                                       (1, [], 0), (1, [0, 0, 0], 1), (2, [], -2), (2, [0], -2)]:
            with self.assertRaises(NoRun) as caught:
                live(procedure, bits)
            self.assertEqual(caught.exception.index, index)
        self.assertEqual(live.pen, PENS[6])

    def test_bits_stay_as_they_were(self):
        bits = [1]
        Live(BOOK)(0, bits)
        self.assertEqual(bits, [1])


class Kept(unittest.TestCase):
    def test_a_function_that_returns(self):
        live = Live(BOOK, pen=(1, 2, 3, 4, 5, 6))
        for result in [None, 0, "done", [], (1, 2)]:
            def deed(one):
                self.assertIs(one, live)
                one += ("go", 2)
                one += MARK
                one += ("aim", 7, 8)
                one += GO
                return result
            self.assertIs(live.kept(deed), result)
            self.assertEqual(live.pen, (1, 2, 3, 4, 7, 10))

    def test_parts_that_are_set(self):
        live = Live(BOOK, pen=(1, 2, 3, 4, 5, 6))

        def deed(one):
            for part in range(3):
                one[part] = (BIG, part)
        self.assertIsNone(live.kept(deed))
        self.assertEqual(live.pen, (1, 2, 3, 4, BIG, 2))

    def test_a_function_that_raises(self):
        for error in [Oops("here"), ValueError("there"), NoRun(7)]:
            live = Live(BOOK, pen=(1, 2, 3, 4, 5, 6))

            def deed(one):
                one += GO
                one += MARK
                raise error
            with self.assertRaises(type(error)) as caught:
                live.kept(deed)
            self.assertIs(caught.exception, error)
            self.assertEqual(live.pen, (1, 2, 3, 4, 4, 6))

    def test_errors_of_the_object_itself(self):
        for spoil, kind in [
                (lambda one: one(0, []), NoRun), (lambda one: one(9, []), NoProcedure), (lambda one: one[5], NoPart)]:
            live = Live(BOOK, pen=(1, 2, 3, 4, 5, 6))

            def deed(one):
                one += GO
                one += ("exchange",)
                spoil(one)
            with self.assertRaises(kind):
                live.kept(deed)
            self.assertEqual(live.pen, (1, 2, 3, 4, 4, 6))

    def test_calls_inside(self):
        live = Live(BOOK)
        self.assertEqual(live.kept(lambda one: one(0, [1])), 1)
        self.assertEqual(live.pen, HOME)
        self.assertEqual(live.kept(lambda one: one(1, [0])), 0)
        self.assertEqual(live.pen, (0, 0, 1, 0, 2, 0))

    def test_kept_inside_kept(self):
        live = Live(BOOK)
        pens = []

        def inner(one):
            one += ("go", 3)
            one += MARK
            one += ("scale", 2)
            pens.append(one.pen)
            return "inner"

        def outer(one):
            one += TURN
            one += GO
            told = one.kept(inner)
            pens.append(one.pen)
            one += GO
            return told, one.kept(lambda other: other.pen)
        self.assertEqual(live.kept(outer), ("inner", (0, 2, 0, 1, 0, 4)))
        self.assertEqual(pens, [(0, 4, 0, 2, 0, 4), (0, 1, 0, 1, 0, 4)])
        self.assertEqual(live.pen, (0, 0, 1, 0, 0, 4))

    def test_kept_inside_kept_that_raises(self):
        live = Live(BOOK)
        pens = []

        def inner(one):
            one += GO
            one += MARK
            raise Oops()

        def outer(one):
            one += TURN
            try:
                one.kept(inner)
            except Oops:
                pens.append(one.pen)
            one += ("go", 5)
            one.kept(inner)
        with self.assertRaises(Oops):
            live.kept(outer)
        self.assertEqual(pens, [(0, 0, 0, 1, 0, 1)])
        self.assertEqual(live.pen, (0, 0, 1, 0, 0, 6))

    def test_kept_is_the_statement(self):
        for pen in PENS:
            for commands in [[GO, TURN, MARK, GO], [("exchange",), ("return",)], []]:
                live = Live(BOOK, pen=pen)

                def deed(one):
                    for command in commands:
                        one += command
                live.kept(deed)
                self.assertEqual(live.pen, ran(Book([[("keep", commands)]]), 0, [], pen=pen)[1])


class Equality(unittest.TestCase):
    def test_books_and_pens(self):
        other_book = Book([[]])
        lives = [(book, pen) for book in (BOOK, other_book) for pen in PENS]
        for first in lives:
            for second in lives:
                one, other = Live(first[0], pen=first[1]), Live(second[0], pen=second[1])
                self.assertIs(one == other, first == second)
                self.assertIs(one != other, first != second)

    def test_what_has_been_done_does_not_matter(self):
        one, other = Live(BOOK), Live(Book(BOOK.bodies()), pen=(1, 0, 1, 0, 0, 0))
        self.assertFalse(one == other)
        one += GO
        self.assertTrue(one == other)
        one += ("go", 0)
        self.assertTrue(one == other)
        other[2] = (0, 1)
        self.assertFalse(one == other)

    def test_nothing_changes(self):
        one, other = Live(BOOK, pen=PENS[2]), Live(BOOK, pen=PENS[3])
        one == other, one != other, one[0], one.pen
        self.assertEqual((one.pen, other.pen), (PENS[2], PENS[3]))


class LargeNumbers(unittest.TestCase):
    def test_forty_digits(self):
        live = Live(BOOK, pen=(BIG, OTHER_BIG, BIG + 1, -BIG, 0, 0))
        live += ("go", -9)
        self.assertEqual(live[0], (BIG - 9 * (BIG + 1), OTHER_BIG + 9 * BIG))
        live[1] = (OTHER_BIG, BIG)
        live[2] = (-OTHER_BIG, BIG * BIG)
        live += ("exchange",)
        live += GO
        self.assertEqual(live.pen, (0, BIG * BIG + BIG, OTHER_BIG, BIG, BIG - 9 * (BIG + 1), OTHER_BIG + 9 * BIG))
        self.assertEqual(live(0, [0]), 0)
        self.assertEqual(live[0], (OTHER_BIG, BIG * BIG + 2 * BIG))

    def test_errors_are_those_of_the_program(self):
        for spoil in [lambda one: one(0, []), lambda one: one[3], lambda one: one(None, None)]:
            with self.assertRaises(HomeError):
                spoil(Live(BOOK))


if __name__ == "__main__":
    unittest.main()
