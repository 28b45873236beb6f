"""Tests of what operators and properties run: LANGUAGE.md, L5 and L28.

An operator calls nothing that it is handed or holds. A call `box.name(..)` is one
of what an object holds wherever an attribute of the package is called `name`, so
beside the attribute `index` of the errors nothing here calls `.index(..)`.
"""

import ast
import builtins
import pathlib
import unittest

PACKAGE = pathlib.Path(__file__).resolve().parent.parent / "penhome"

# These may change something, or say only that there is no such operator.
FREE = {"__init__", "__call__", "__setitem__", "__iadd__", "__iter__"}

BUILTIN_METHODS = {name for kind in (int, str, bytes, list, tuple, dict, set) for name in dir(kind)}


class Package:
    """The functions, methods, classes and attributes of some files."""

    def __init__(self, texts):
        self.functions = {}
        self.methods = {}
        self.classes = {}
        self.attributes = set()
        self.roots = []
        for text in texts:
            tree = ast.parse(text)
            for node in tree.body:
                if isinstance(node, ast.FunctionDef):
                    self.functions[node.name] = node
                elif isinstance(node, ast.ClassDef):
                    self.add_class(node)
            for node in ast.walk(tree):
                if isinstance(node, ast.Attribute) and isinstance(node.ctx, ast.Store):
                    self.attributes.add(node.attr)

    def add_class(self, node):
        self.classes[node.name] = [each for each in node.body if isinstance(each, ast.FunctionDef)]
        for method in self.classes[node.name]:
            self.methods.setdefault(method.name, []).append(method)
            marks = [ast.unparse(mark) for mark in method.decorator_list]
            operator = method.name.startswith("__") and method.name not in FREE
            if operator or "property" in marks:
                self.roots.append(method)

    def called_by(self, function):
        """List the functions and methods of the package that a function may call."""
        found = []
        for name, attribute in calls_in(function):
            if attribute:
                found += self.methods.get(name, [])
            elif name in self.classes:
                found += [each for each in self.classes[name] if each.name == "__init__"]
            elif name in self.functions:
                found.append(self.functions[name])
        return found

    def reached(self, root):
        found, left = [], [root]
        while left:
            function = left.pop()
            if function not in found:
                found.append(function)
                left += self.called_by(function)
        return found

    def faults(self):
        """List the calls that an operator or a property reaches and that may be of what it holds."""
        found = []
        for root in self.roots:
            for function in self.reached(root):
                found += [(root.name, function.name, name) for name, attribute in calls_in(function)
                          if self.is_fault(name, attribute)]
        return found

    def is_fault(self, name, attribute):
        if attribute:
            # Under a name of both kinds, nobody sees which of the two is called.
            known = (name in BUILTIN_METHODS) + (name in self.methods)
            return name in self.attributes or known != 1
        return name not in self.functions and name not in self.classes and name not in [*dir(builtins), "gcd"]


def calls_in(function):
    """List the name of what each call calls, and whether it stands behind a dot."""
    found = []
    for node in ast.walk(function):
        if isinstance(node, ast.Call):
            if isinstance(node.func, ast.Attribute):
                found.append((node.func.attr, True))
            else:
                found.append((ast.unparse(node.func), False))
    return found


def the_package():
    return Package([path.read_text() for path in sorted(PACKAGE.rglob("*.py"))])


class Calls(unittest.TestCase):
    def test_operators_and_properties_call_nothing_that_they_hold(self):
        self.assertEqual(the_package().faults(), [])

    def test_index_is_an_attribute_that_nothing_reached_calls(self):
        package = the_package()
        self.assertIn("index", package.attributes)
        for root in package.roots:
            for function in package.reached(root):
                self.assertNotIn(("index", True), calls_in(function), (root.name, function.name))

    def test_the_operators_of_spaces_are_looked_at(self):
        package = the_package()
        reached = {root.name: {each.name for each in package.reached(root)} for root in package.roots}
        for name in ["__add__", "__mul__"]:
            self.assertLessEqual({"__init__", "basis_of", "extended", "primitive", "pivot_of"}, reached[name])
        self.assertIn("composed", reached["__mul__"])
        self.assertLessEqual({"independent", "narrowed", "cancelled"}, reached["__add__"])

    def test_each_operator_and_property_is_looked_at(self):
        package = the_package()
        names = [root.name for root in package.roots]
        for name, many in [("__eq__", 3), ("__contains__", 2), ("__getitem__", 2), ("__len__", 2), ("__add__", 1), ("pen", 1)]:
            self.assertEqual(names.count(name), many)
        for root in package.roots:
            if root.name == "__contains__":
                reached = [each.name for each in package.reached(root)]
                self.assertTrue("reduced" in reached or "statement_at" in reached)


class ThisTestItself(unittest.TestCase):
    """A fault in a small package is seen."""

    START = "class Box:\n    def __init__(self, at):\n        self.index = at\n"

    def faults(self, rest):
        return Package([self.START + rest]).faults()

    def test_no_fault(self):
        self.assertEqual(self.faults("    def __add__(self, other):\n        return Box(len(other))\n"), [])
        self.assertEqual(self.faults("    def far(self, other):\n        return other.index(1)\n"), [])

    def test_a_call_in_an_operator_and_further_on(self):
        rest = "    def __add__(self, other):\n        return far(other)\ndef far(row):\n    return row.index(1)\n"
        self.assertEqual(self.faults(rest), [("__add__", "far", "index")])
        rest = "    def __contains__(self, x):\n        return x.index(1)\n"
        self.assertEqual(self.faults(rest), [("__contains__", "__contains__", "index")])

    def test_a_call_in_a_property_and_in_what_a_class_makes(self):
        rest = "    @property\n    def many(self):\n        return [1].index(1)\n"
        self.assertEqual(self.faults(rest), [("many", "many", "index")])
        rest = ("    def __len__(self):\n        return len(Lid().rows)\n"
                "class Lid:\n    def __init__(self):\n        self.rows = [[1].index(1)]\n")
        self.assertEqual(self.faults(rest), [("__len__", "__init__", "index")])

    def test_a_call_of_what_is_handed(self):
        rest = "    def __mul__(self, other):\n        return other(1)\n"
        self.assertEqual(self.faults(rest), [("__mul__", "__mul__", "other")])

    def test_a_method_with_the_name_of_one_of_a_builtin_value(self):
        rest = ("    def append(self, x):\n        self.index = x\n"
                "    def __sub__(self, other):\n        rows = []\n        rows.append(1)\n        return rows\n")
        self.assertIn(("__sub__", "__sub__", "append"), self.faults(rest))


if __name__ == "__main__":
    unittest.main()
