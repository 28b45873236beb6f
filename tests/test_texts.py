"""Tests of penhome.texts: points 2 to 6, 57 and 58."""

import copy
import unittest
from itertools import product

from making import lists_in, made_bodies, rich_bodies
from penhome.books import Book
from penhome.errors import NoText
from penhome.spaces import Space
from penhome.texts import book_text, read_book
from samples import BIG, COMMANDS, LIMITS, STRANGE

GO = ("go", 1)


def call(procedure, saved, zero, one):
    return ("call", procedure, saved, [zero, one])


EXAMPLE = Book([[("either", [("go", -1)], []), call(0, True, [], [("end", 1)])]])
EXAMPLE_TEXT = """to 0
  either
    go -1
  or
  call 0 saved
  way 0
  way 1
    end 1"""

# A text with each kind of statement, at each level, and one with as many statements as there may be.
WIDE = Book([
    [("keep", [("again", [("either", [("go", 9)], [("end", 0)]), ("turn", 3)]), ("mirror",)]), ("scale", -3)],
    [call(2, False, [("aim", -9, 0), call(0, True, [call(1, False, [("mark",)], [])], [])], [("keep", [])]),
     ("place", 0, 9), ("return",)],
    [("exchange",), ("end", 1), ("again", [])],
])
WIDE_TEXT = """to 0
  keep
    again
      either
        go 9
      or
        end 0
      turn 3
    mirror
  scale -3
to 1
  call 2
  way 0
    aim -9 0
    call 0 saved
    way 0
      call 1
      way 0
        mark
      way 1
    way 1
  way 1
    keep
  place 0 9
  return
to 2
  exchange
  end 1
  again"""


class Texts(unittest.TestCase):
    def both(self, book, text):
        with self.subTest(text=text):
            self.assertEqual(book_text(book), text)
            found = read_book(text)
            self.assertIsInstance(found, Book)
            self.assertEqual(found, book)
            self.assertEqual(found.bodies(), book.bodies())

    def test_the_example_of_the_document(self):
        self.both(EXAMPLE, EXAMPLE_TEXT)

    def test_empty_bodies(self):
        self.both(Book([[]]), "to 0")
        self.both(Book([[], []]), "to 0\nto 1")
        self.both(Book([[], [], []]), "to 0\nto 1\nto 2")
        self.both(Book([[], [GO], []]), "to 0\nto 1\n  go 1\nto 2")

    def test_each_statement(self):
        self.both(WIDE, WIDE_TEXT)
        for saved, word in [(True, " saved"), (False, "")]:
            for procedure in range(3):
                self.both(Book([[call(procedure, saved, [GO], [])], [], []]),
                          f"to 0\n  call {procedure}{word}\n  way 0\n    go 1\n  way 1\nto 1\nto 2")
        self.both(Book([[("end", 0), ("end", 1)]]), "to 0\n  end 0\n  end 1")
        self.both(Book([[("either", [], [])]]), "to 0\n  either\n  or")
        self.both(Book([[("either", [], [GO])]]), "to 0\n  either\n  or\n    go 1")
        self.both(Book([[("keep", [GO]), ("again", [GO]), GO]]), "to 0\n  keep\n    go 1\n  again\n    go 1\n  go 1")

    def test_each_command(self):
        for command in COMMANDS:
            text = "to 0\n  " + " ".join(str(item) for item in command)
            book = Book([[command]])
            self.assertEqual(book_text(book), text)
            self.assertEqual(read_book(text), book)

    def test_each_level(self):
        command = ("aim", -9, 4)
        body = [command]
        for level in range(4):
            text = "".join("\n" + "  " * (step + 1) + "keep" for step in range(level))
            self.both(Book([body]), "to 0" + text + "\n" + "  " * (level + 1) + "aim -9 4")
            body = [("keep", body)]

    def test_as_much_as_there_may_be(self):
        self.both(Book([[GO] * 8]), "to 0" + "\n  go 1" * 8)
        self.both(Book([[GO] * 7 + [("keep", [GO] * 4)]]), "to 0" + "\n  go 1" * 7 + "\n  keep" + "\n    go 1" * 4)
        body = [("either", [GO] * 4, [("again", [GO] * 5)]), GO]
        self.both(Book([body] * 3), "\n".join(
            f"to {at}\n  either" + "\n    go 1" * 4 + "\n  or\n    again" + "\n      go 1" * 5 + "\n  go 1"
            for at in range(3)))

    def test_made_books(self):
        for seed in range(300):
            for bodies in [made_bodies(seed), rich_bodies(seed)]:
                book = Book(bodies)
                text = book_text(book)
                self.assertIs(type(text), str)
                self.assertEqual(read_book(text), book)
                self.assertEqual(book_text(read_book(text)), text)

    def test_texts_of_different_books_differ(self):
        books = [Book(made_bodies(seed)) for seed in range(120)]
        for one, other in product(books, repeat=2):
            self.assertEqual(book_text(one) == book_text(other), one == other)

    def test_nothing_is_shared(self):
        bodies = copy.deepcopy(WIDE.bodies())
        book = Book(bodies)
        book_text(book)
        self.assertEqual((book, bodies), (WIDE, WIDE.bodies()))
        one, other = read_book(WIDE_TEXT), read_book(WIDE_TEXT)
        for each in lists_in(one.bodies()):
            each.clear()
        self.assertEqual((one, other), (WIDE, WIDE))


class Checks(unittest.TestCase):
    def line(self, text, wanted):
        with self.subTest(text=text):
            with self.assertRaises(NoText) as caught:
                read_book(text)
            self.assertEqual(caught.exception.line, wanted)
            self.assertIs(type(caught.exception.line), int)


class NoTexts(Checks):
    def test_the_examples_of_the_document(self):
        self.line("", 0)
        self.line("to 0\n  go 10", 1)
        self.line("to 0\n  either", 2)
        self.line("to 0\n  call 1\n  way 0\n  way 1", 4)
        self.line("to 0\n", 1)
        for bodies in ["", "\n  mark"]:
            for more in ["", "\n", "\n  go 1", "\nto 4"]:
                self.line(f"to 0{bodies}\nto 1{bodies}\nto 2{bodies}\nto 3{more}", 3 + 3 * (bodies != ""))

    def test_no_string(self):
        for wrong in [None, True, False, 0, 1, BIG, [], ["to 0"], (), ("to 0",), {}, {"to 0": 1}, EXAMPLE.bodies(), Space([])]:
            self.line(wrong, -1)
        for wrong in STRANGE:
            self.line(wrong, 0 if isinstance(wrong, str) else -1)

    def test_the_first_line(self):
        for wrong in ["", " ", "to", "to ", "to 1", "to 2", "to 00", "to +0", "to -0", " to 0", "  to 0", "to 0 ", "to  0",
                      "To 0", "TO 0", "to zero", "to 0to 0", "  go 1", "go 1", "  mark", "mark", "or", "way 0", "to 0\\n"]:
            for behind in ["", "\nto 0", "\n  go 1", "\n"]:
                self.line(wrong + behind, 0)

    def test_lines_that_begin_a_procedure(self):
        for wrong in ["to 0", "to 2", "to 3", "to 01", "to 1 ", " to 1", "  to 1", "to  1", "to", "TO 1", "to -1", "to +1"]:
            self.line(f"to 0\n{wrong}", 1)
            self.line(f"to 0\n  go 1\n{wrong}\n  go 1", 2)
        for wrong in ["to 0", "to 1", "to 3"]:
            self.line(f"to 0\nto 1\n{wrong}", 2)
        for start, wanted in [("  either", 2), ("  call 0", 2), ("  call 0\n  way 0", 3), ("  keep\n    either", 3)]:
            self.line(f"to 0\n{start}\nto 1", wanted)
        self.assertEqual(read_book("to 0\n  keep\nto 1\n  again\n    again\nto 2"), Book([
            [("keep", [])], [("again", [("again", [])])], []]))

    def test_empty_lines(self):
        lines = WIDE_TEXT.split("\n")
        for at in range(len(lines) + 1):
            self.line("\n".join([*lines[:at], "", *lines[at:]]), at)
            self.line("\n".join([*lines[:at], "  ", *lines[at:]]), at)
        self.line(WIDE_TEXT + "\n", len(lines))
        self.line(WIDE_TEXT + "\n\n", len(lines))
        self.line("\n" + WIDE_TEXT, 0)
        self.line("\n", 0)

    def test_each_line_spoiled(self):
        lines = WIDE_TEXT.split("\n")
        for at, line in enumerate(lines):
            for wrong in [line + " ", " " + line, line[1:], line.upper(), line + " 0", line + "0", line.replace(" ", ""), "x",
                          line.strip() + "x", line.replace(" ", "\\t"), line + "?", " " * 10 + "mark", " " * 9 + "mark",
                          " mark", "mark", "   mark", line.replace("e", "f").replace("o", "u").replace("a", "i")]:
                if wrong != line:
                    self.line("\n".join([*lines[:at], wrong, *lines[at + 1:]]), at)

    def test_numbers(self):
        digits = "1" * 5000
        for word, limits in LIMITS:
            for at, (low, high) in enumerate(limits):
                for wrong in ["07", "+1", "-0", "00", "--1", "- 1", "1.0", "1e0", "0x1", "1_0", "", " 1", "1 ", "one", "True",
                              "None", str(low - 1), str(high + 1), "10", "-10", str(BIG), str(-BIG), digits, "-" + digits,
                              "0" * 5000, "0" * 5000 + "1", "(1)", "1,", "[1]", "--", "-", "+", "1-"]:
                    numbers = [str(bounds[1]) for bounds in limits]
                    numbers[at] = wrong
                    self.line(f"to 0\n  {word} {' '.join(numbers)}", 1)
                    self.line(f"to 0\n  mark\n  keep\n    {word} {' '.join(numbers)}\n  mark", 3)
        for wrong in ["07", "+1", "-0", "3", "2", "-1", "", "1 ", " 1", "01", digits, "00", str(BIG), "0 0", "True"]:
            self.line(f"to 0\n  end {wrong}", 1)
        for wrong in ["07", "+1", "-0", "3", "-1", "", "1 ", " 1", "01", digits, "00", str(BIG), "0 0", "True", "0saved",
                      "0  saved", "0 saved ", "0 Saved", "saved", "saved 0", "3 saved", "0 saved saved", "0 True"]:
            self.line(f"to 0\n  call {wrong}\n  way 0\n  way 1", 1)
        for wrong in [digits, "0" + digits, "00", "-0", "+0"]:
            self.line(f"to {wrong}", 0)
            self.line(f"to 0\nto {wrong}", 1)

    def test_wrong_shapes_of_commands(self):
        for word, limits in LIMITS:
            right = [word, *[str(high) for low, high in limits]]
            for wrong in [right[:-1], [*right, "1"], [*right, ""], ["", *right], right[1:], [word, ",".join(right[1:])],
                          [word.upper(), *right[1:]], [word + "s", *right[1:]], [repr(word), *right[1:]]]:
                text = " ".join(wrong)
                if text != " ".join(right):
                    self.line(f"to 0\n  {text}", 1)

    def test_margins(self):
        for level in range(1, 5):
            self.line("to 0\n" + "  " * (level + 1) + "go 1", 1)
            self.line("to 0\n  go 1\n" + "  " * (level + 1) + "go 1", 2)
            self.line("to 0\n  keep\n" + "  " * (level + 2) + "go 1", 2)
        for spaces in [0, 1, 3, 5, 7, 8, 9, 10, 100]:
            self.line("to 0\n  keep\n" + " " * spaces + "go 1", 2)
        self.line("to 0\n  keep\n    go 1\n      go 1", 3)
        self.line("to 0\n  keep\n  go 1\n    go 1", 3)
        # Behind an end of a list, the next line belongs to a list further out.
        self.assertEqual(read_book("to 0\n  keep\n    again\n      keep\n        mark\n  mark"), Book([
            [("keep", [("again", [("keep", [("mark",)])])]), ("mark",)]]))

    def test_either(self):
        for wrong in ["  go 1", "  either", "to 1", "  way 0", "  way 1", "    or", "or", "  or 0", "  or ", "      go 1"]:
            self.line(f"to 0\n  either\n{wrong}", 2)
            self.line(f"to 0\n  either\n    go 1\n{wrong}", 3)
        self.line("to 0\n  or", 1)
        self.line("to 0\n  go 1\n  or", 2)
        self.line("to 0\n  keep\n  or", 2)
        self.line("to 0\n  either\n  or\n  or", 3)
        self.line("to 0\n  either\n  or\n    go 1\n  or", 4)
        self.line("to 0\n  either\n    either\n  or", 3)
        self.line("to 0\n  either\n    either\n    or\n    or", 4)
        self.line("to 0\n  either\n    either\n      go 1\n  go 1", 4)

    def test_calls(self):
        for wrong in ["  go 1", "    go 1", "  way 1", "  or", "to 1", "way 0", "    way 0", "  way 0 ", "  way 00", "  way 2"]:
            self.line(f"to 0\n  call 0\n{wrong}", 2)
        for wrong in ["  go 1", "  way 0", "  or", "to 1", "    way 1", "way 1", "  way 01", "  way", "      go 1"]:
            self.line(f"to 0\n  call 0\n  way 0\n{wrong}", 3)
            self.line(f"to 0\n  call 0\n  way 0\n    go 1\n{wrong}", 4)
        for wrong in ["  way 0", "  way 1", "  way 2", "  or", "      go 1"]:
            self.line(f"to 0\n  call 0\n  way 0\n  way 1\n{wrong}", 4)
        self.line("to 0\n  way 0", 1)
        self.line("to 0\n  keep\n  way 0", 2)
        self.line("to 0\n  either\n    call 0\n  or", 3)
        self.line("to 0\n  either\n    call 0\n    way 0\n  or", 4)

    def test_lists_that_are_too_long(self):
        self.line("to 0" + "\n  go 1" * 9, 9)
        self.line("to 0" + "\n  go 1" * 8 + "\n  keep\n    go 1", 9)
        self.line("to 0" + "\n  go 1" * 8 + "\n    go 1", 9)
        self.line("to 0\n  keep" + "\n    mark" * 9 + "\n  mark", 10)
        self.line("to 0\n  either\n  or" + "\n    mark" * 9, 11)
        self.line("to 0\n  call 0\n  way 0" + "\n    mark" * 9 + "\n  way 1", 11)
        self.line("to 0\nto 1" + "\n  go 1" * 9, 10)

    def test_procedures_that_are_too_long(self):
        self.line("to 0\n  keep" + "\n    mark" * 7 + "\n  mark" * 5, 13)
        self.line("to 0\n  keep" + "\n    mark" * 7 + "\n  mark" * 4 + "\n  either\n  or", 13)
        self.line("to 0\n  either" + "\n    mark" * 5 + "\n  or" + "\n    mark" * 7, 14)
        # The line that ends a block counts for nothing, and each procedure has statements of its own.
        self.line("to 0\n  either" + "\n    mark" * 5 + "\n  or" + "\n    mark" * 6 + "\nto 1\n  x", 15)
        for text in ["to 0\n  keep" + "\n    mark" * 7 + "\n  mark" * 4]:
            self.assertEqual(read_book(text), Book([[("keep", [("mark",)] * 7)] + [("mark",)] * 4]))

    def test_levels_that_are_too_deep(self):
        deep = "to 0\n  keep\n    again\n      either"
        for wrong in ["keep", "again", "either", "call 0", "call 0 saved", "call 2"]:
            self.line(f"{deep}\n        {wrong}", 4)
            self.line(f"{deep}\n        mark\n        {wrong}", 5)
        for right in ["mark", "end 1", "go -9", "aim 1 2"]:
            self.line(f"{deep}\n        {right}", 5)
            self.line(f"{deep}\n        {right}\n          {right}", 5)
        self.assertEqual(read_book(f"{deep}\n      or\n        end 1"), Book([
            [("keep", [("again", [("either", [], [("end", 1)])])])]]))

    def test_texts_that_end_too_early(self):
        lines = WIDE_TEXT.split("\n")
        early = 0
        for size in range(1, len(lines)):
            text = "\n".join(lines[:size])
            try:
                found = book_text(read_book(text))
            except NoText as error:
                self.assertEqual(error.line, size)
                early += 1
            else:
                self.assertEqual(found, text)
        # The either of procedure 0 lacks its second block, and procedure 1 calls what follows it.
        self.assertEqual(early, 2 + 14)
        for size in [4, 5, 12, 25]:
            self.line("\n".join(lines[:size]), size)

    def test_calls_of_procedures_that_are_missing(self):
        rest = "\n  way 0\n  way 1"
        self.line(f"to 0\n  call 1{rest}", 4)
        self.line(f"to 0\n  call 2 saved{rest}", 4)
        self.line(f"to 0\n  call 2{rest}\nto 1", 5)
        self.line(f"to 0\nto 1\n  call 2{rest}", 5)
        self.line(f"to 0\n  call 1{rest}\n", 4)
        self.line(f"to 0\n  call 3{rest}", 1)
        self.line(f"to 0\nto 1\nto 2\n  call 3{rest}", 3)
        for text in [f"to 0\n  call 1{rest}\nto 1", f"to 0\n  call 2{rest}\nto 1\nto 2", f"to 0\nto 1\n  call 0{rest}"]:
            self.assertEqual(book_text(read_book(text)), text)


class Grammar:
    """All lists of lines that bodies of few lines have, made without reading any."""

    def __init__(self):
        self.blocks_known = {}
        self.statements_known = {}

    def blocks(self, level, many):
        if (level, many) not in self.blocks_known:
            found = [()] if many == 0 else []
            for size in range(1, many + 1):
                for first in self.statements(level, size):
                    found += [first + rest for rest in self.blocks(level, many - size)]
            self.blocks_known[level, many] = found
        return self.blocks_known[level, many]

    def statements(self, level, many):
        if (level, many) not in self.statements_known:
            self.statements_known[level, many] = self.made_statements(level, many, "  " * (level + 1))
        return self.statements_known[level, many]

    def made_statements(self, level, many, margin):
        found = [(margin + "mark",)] if many == 1 else []
        if level == 3:
            return found
        found += [(margin + "keep",) + inner for inner in self.blocks(level + 1, many - 1)]
        for heads in [["either", "or"], ["call 1 saved\n" + margin + "way 0", "way 1"]]:
            lines = "\n".join(heads).count("\n") + 1
            for size in range(many - lines + 1):
                for first in self.blocks(level + 1, size):
                    for second in self.blocks(level + 1, many - lines - size):
                        ahead = tuple((margin + heads[0]).split("\n"))
                        found.append(ahead + first + (margin + heads[1],) + second)
        return found


class AllShortTexts(Checks):
    """Each text of at most five lines, out of some lines, is looked up among all texts that there are."""

    MOST = 4

    def known(self):
        """Return the beginnings of all texts, and all texts, of at most five lines."""
        grammar = Grammar()
        bodies = [body for size in range(9) for body in grammar.blocks(0, size)]
        ahead = {body[:size] for body in bodies for size in range(self.MOST + 1)}
        short = [body for body in bodies if len(body) < self.MOST]
        pairs = [(one, other) for one in short for other in short if len(one) + len(other) <= self.MOST - 2]
        starts = ahead | {(*one, "to 1", *start)[:self.MOST] for one in short for start in ahead}
        starts |= {(*one, "to 1", *other, "to 2", *start)[:self.MOST] for one, other in pairs for start in ahead}
        whole = {("to 0", *body) for body in short + grammar.blocks(0, self.MOST) if "call" not in "".join(body)}
        whole |= {("to 0", *one, "to 1", *other) for one in short for other in short}
        whole |= {("to 0", *one, "to 1", *other, "to 2", *more) for one, other in pairs for more in short}
        return {("to 0", *start) for start in starts}, whole

    def test_all(self):
        starts, whole = self.known()
        words = ["mark", "keep", "either", "or", "call 1 saved", "way 0", "way 1"]
        lines = ["  " * (level + 1) + word for level in range(3) for word in words] + ["to 1", "to 2", "to 0", ""]
        right = 0
        for size in range(self.MOST + 1):
            for choice in product(lines, repeat=size):
                text = ("to 0", *choice)
                wrong = [at for at in range(len(text)) if text[:at + 1] not in starts]
                wanted = None if text in whole else min(wrong, default=len(text))
                if wanted is None:
                    self.assertEqual(book_text(read_book("\n".join(text))), "\n".join(text))
                    right += 1
                else:
                    self.is_line(text, wanted)
        self.assertGreater(right, 30)

    def is_line(self, text, wanted):
        try:
            read_book("\n".join(text))
        except NoText as error:
            self.assertEqual(error.line, wanted, text)
        else:
            self.fail(text)


if __name__ == "__main__":
    unittest.main()
