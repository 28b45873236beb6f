"""Tests of penhome.errors: points 5 and 60."""

import unittest

from penhome import errors
from samples import STRANGE

PLAIN = [
    "NoPen", "NoCommand", "NoProcedure", "NoWay", "NoPath",
    "NoTable", "NoVariables", "NoCount", "NoPart", "NoNumber",
]

FIELDS = {
    "NoBook": ["procedure", "path"],
    "NoCall": ["index"],
    "NoRun": ["index"],
    "NoRows": ["index"],
    "NoEquations": ["index"],
    "NoEquation": ["place"],
    "TooMany": ["many"],
    "NoText": ["line"],
}

ORDINARY = {
    "procedure": [-1, 0, 2],
    "path": [(), (0,), (3, 1, 7)],
    "index": [-2, -1, 0, 5],
    "place": ["equation", "variables", "left", "right", "parts"],
    "many": [6, 36],
    "line": [-1, 0, 99],
}


class Ancestors(unittest.TestCase):
    def test_home_error_stands_directly_under_value_error(self):
        self.assertEqual(errors.HomeError.__bases__, (ValueError,))

    def test_every_other_error_stands_directly_under_home_error_alone(self):
        for name in [*PLAIN, *FIELDS]:
            with self.subTest(name=name):
                self.assertEqual(getattr(errors, name).__bases__, (errors.HomeError,))

    def test_no_error_is_caught_as_another_one(self):
        names = [*PLAIN, *FIELDS]
        for name in names:
            for other in names:
                if name != other:
                    with self.subTest(name=name, other=other):
                        self.assertFalse(issubclass(getattr(errors, name), getattr(errors, other)))

    def test_there_are_no_other_errors(self):
        found = [name for name in vars(errors) if isinstance(getattr(errors, name), type)]
        self.assertEqual(sorted(found), sorted(["HomeError", *PLAIN, *FIELDS]))

    def test_each_error_can_be_caught_as_value_error(self):
        for name in PLAIN:
            with self.assertRaises(ValueError):
                raise getattr(errors, name)()
        for name, fields in FIELDS.items():
            with self.assertRaises(ValueError):
                raise getattr(errors, name)(*[0 for field in fields])


class Fields(unittest.TestCase):
    def check(self, name, values):
        error = getattr(errors, name)(*values)
        for field, value in zip(FIELDS[name], values):
            with self.subTest(name=name, field=field, value=value):
                # 1 and True are equal, so equality would not tell them apart.
                self.assertIs(getattr(error, field), value)
        self.assertEqual(sorted(vars(error)), sorted(FIELDS[name]))

    def test_ordinary_values(self):
        for name, fields in FIELDS.items():
            if len(fields) == 1:
                for value in ORDINARY[fields[0]]:
                    self.check(name, [value])
        for procedure in ORDINARY["procedure"]:
            for path in ORDINARY["path"]:
                self.check("NoBook", [procedure, path])

    def test_values_of_other_kinds(self):
        for value in [*STRANGE, 10 ** 40, -(10 ** 40), ["a", [None, {}]]]:
            for name, fields in FIELDS.items():
                self.check(name, [value for field in fields])
            self.check("NoBook", [value, 0])
            self.check("NoBook", [0, value])

    def test_two_errors_do_not_share_their_fields(self):
        one = errors.NoBook(1, (2,))
        other = errors.NoBook(3, (4,))
        self.assertEqual((one.procedure, one.path, other.procedure, other.path), (1, (2,), 3, (4,)))

    def test_errors_without_fields_are_called_without_arguments(self):
        for name in PLAIN:
            self.assertEqual(vars(getattr(errors, name)()), {})
