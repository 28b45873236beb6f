"""Tests of penhome.pens: points 2 to 4 and 7 to 9."""

import unittest

from penhome.errors import NoCommand, NoPen
from penhome.pens import HOME, moved
from samples import BIG, COMMANDS, LIMITS, NO_COMMANDS, NO_PENS, OTHER_BIG, PENS

# The heading behind n turns, for n from 1 to 3.
TURNED = {1: lambda u, v: (-v, u), 2: lambda u, v: (-u, -v), 3: lambda u, v: (v, -u)}


def expected(pen, word, numbers):
    """Return what point 8 says, written part by part."""
    place, heading, mark = pen[:2], pen[2:4], pen[4:]
    if word == "go":
        place = tuple(at + numbers[0] * step for at, step in zip(place, heading))
    elif word == "turn":
        heading = TURNED[numbers[0]](*heading)
    elif word == "mirror":
        heading = (heading[0], -heading[1])
    elif word == "scale":
        heading = tuple(numbers[0] * step for step in heading)
    elif word == "aim":
        heading = numbers
    elif word == "place":
        place = numbers
    elif word == "mark":
        mark = place
    elif word == "return":
        place = mark
    else:
        place, mark = mark, place
    return place + heading + mark


class Pens(unittest.TestCase):
    def test_home(self):
        self.assertIs(type(HOME), tuple)
        self.assertEqual(HOME, (0, 0, 1, 0, 0, 0))

    def test_no_pens(self):
        for wrong in NO_PENS:
            with self.subTest(pen=wrong), self.assertRaises(NoPen):
                moved(wrong, ("mark",))

    def test_all_integers_make_a_pen(self):
        for pen in PENS:
            self.assertEqual(moved(pen, ("go", 0)), pen)


class Commands(unittest.TestCase):
    def test_example_of_the_document(self):
        self.assertEqual(moved((0, 0, 1, 2, 5, 5), ("go", 3)), (3, 6, 1, 2, 5, 5))

    def test_each_command_by_hand(self):
        pen = (1, 2, 3, -4, 5, 6)
        for command, behind in [
            (("go", -9), (-26, 38, 3, -4, 5, 6)),
            (("go", 9), (28, -34, 3, -4, 5, 6)),
            (("go", 0), (1, 2, 3, -4, 5, 6)),
            (("turn", 1), (1, 2, 4, 3, 5, 6)),
            (("turn", 2), (1, 2, -3, 4, 5, 6)),
            (("turn", 3), (1, 2, -4, -3, 5, 6)),
            (("mirror",), (1, 2, 3, 4, 5, 6)),
            (("scale", -3), (1, 2, -9, 12, 5, 6)),
            (("scale", 0), (1, 2, 0, 0, 5, 6)),
            (("scale", 3), (1, 2, 9, -12, 5, 6)),
            (("aim", -9, 9), (1, 2, -9, 9, 5, 6)),
            (("aim", 9, -9), (1, 2, 9, -9, 5, 6)),
            (("place", -9, 9), (-9, 9, 3, -4, 5, 6)),
            (("place", 9, -9), (9, -9, 3, -4, 5, 6)),
            (("mark",), (1, 2, 3, -4, 1, 2)),
            (("return",), (5, 6, 3, -4, 5, 6)),
            (("exchange",), (5, 6, 3, -4, 1, 2)),
        ]:
            with self.subTest(command=command):
                self.assertEqual(moved(pen, command), behind)

    def test_numbers_of_forty_digits(self):
        pen = (BIG, OTHER_BIG, OTHER_BIG, BIG, 1, -1)
        self.assertEqual(
            moved(pen, ("go", 7)),
            (BIG + 7 * OTHER_BIG, OTHER_BIG + 7 * BIG, OTHER_BIG, BIG, 1, -1))
        self.assertEqual(moved(pen, ("turn", 1)), (BIG, OTHER_BIG, -BIG, OTHER_BIG, 1, -1))
        self.assertEqual(moved(pen, ("scale", -3)), (BIG, OTHER_BIG, -3 * OTHER_BIG, -3 * BIG, 1, -1))

    def test_every_command_on_every_pen(self):
        self.assertEqual(len(COMMANDS), 19 + 3 + 1 + 7 + 361 + 361 + 1 + 1 + 1)
        for pen in PENS:
            for word, *numbers in COMMANDS:
                behind = moved(pen, (word, *numbers))
                self.assertEqual(behind, expected(pen, word, tuple(numbers)), (pen, word, numbers))

    def test_the_pen_behind_is_a_pen(self):
        for command in COMMANDS:
            behind = moved((1, 2, 3, 4, 5, 6), command)
            self.assertIs(type(behind), tuple)
            self.assertEqual([type(number) for number in behind], [int] * 6)

    def test_both_ends_of_each_range_are_commands(self):
        for word, limits in LIMITS:
            for command in [(word, *[low for low, high in limits]), (word, *[high for low, high in limits])]:
                self.assertIn(command, COMMANDS)
                moved(HOME, command)

    def test_no_commands(self):
        for wrong in NO_COMMANDS:
            with self.subTest(command=wrong), self.assertRaises(NoCommand):
                moved(HOME, wrong)


class Order(unittest.TestCase):
    def test_the_pen_is_checked_ahead_of_the_command(self):
        for wrong in NO_COMMANDS[:60]:
            for pen in NO_PENS[:20]:
                with self.subTest(pen=pen, command=wrong), self.assertRaises(NoPen):
                    moved(pen, wrong)

    def test_wrong_arguments_do_not_change(self):
        pen, command = [0, 0, 1, 0, 0, 0], ["go", 1]
        with self.assertRaises(NoPen):
            moved(pen, command)
        with self.assertRaises(NoCommand):
            moved(HOME, command)
        self.assertEqual((pen, command), ([0, 0, 1, 0, 0, 0], ["go", 1]))
