"""Tests of the form of the package: rules of LANGUAGE.md, and point 59.

Only rules that a few lines can see are checked here.
"""

import ast
import builtins
import pathlib
import re
import unittest

PACKAGE = pathlib.Path(__file__).resolve().parent.parent / "penhome"

BUILTINS = """
    len range enumerate zip min max sum abs sorted reversed int str bool bytes list tuple dict set frozenset
    isinstance ord repr any all divmod pow getattr hasattr setattr iter next map super property staticmethod
    classmethod object Exception ValueError TypeError KeyError IndexError LookupError ZeroDivisionError
    ArithmeticError OverflowError RuntimeError NotImplementedError AttributeError StopIteration NotImplemented
""".split()

LIBRARY = {
    "heapq": "heappush heappop heapify heapreplace heappushpop".split(),
    "math": "gcd lcm isqrt comb perm factorial".split(),
    "itertools": "product combinations permutations chain accumulate pairwise islice zip_longest".split(),
    "collections": ["defaultdict"],
    "__future__": ["annotations"],
}

# The methods of builtin values that the rules know.
BUILTIN_METHODS = """
    append clear copy count endswith extend find get index insert isalnum isalpha isdigit islower isspace isupper
    items join keys ljust lower lstrip partition pop remove replace reverse rfind rjust rpartition rsplit rstrip
    setdefault split splitlines startswith strip update upper values zfill bit_length
""".split()

# Names that stand nowhere, and words that stand in no code, strings included.
BARRED_NAMES = """
    register mro elements open input law version_info with_traceback add_note attrgetter breakpoint builtins compile
    copyright credits delattr dir eval exec exit gc globals help id importlib license locals methodcaller os quit
    type vars sys
""".split()
BARRED_WORDS = """
    type typing typing_extensions enum Enum IntEnum StrEnum Flag IntFlag Generic Protocol ABC ABCMeta namedtuple
    NamedTuple TypedDict TYPE_CHECKING abstractmethod _wall _WallAttr
""".split()

# What the interface lists under each file.
INTERFACE = {
    "errors.py": """
        HomeError NoPen NoCommand NoProcedure NoWay NoPath NoTable NoVariables NoCount NoPart NoNumber
        NoBook NoCall NoRun NoRows NoEquations NoEquation TooMany NoText
    """.split(),
    "pens.py": ["moved"],
    "matrices.py": ["vector", "matrix_of", "applied", "composed", "kept_matrix"],
    "books.py": ["Book"],
    "runs.py": ["ran", "trace", "run_matrix"],
    "spaces.py": ["Space"],
    "tables.py": ["table", "body_space", "table_fault", "basis_runs"],
    "equations.py": ["decide", "equation_fault", "holds_fault", "named"],
    "algebra.py": ["equations_of", "rounds", "breaking_round"],
    "saves.py": ["fewest_saves", "saves_fault"],
    "swaps.py": ["can_swap", "swap_runs", "swapped"],
    "live.py": ["Live"],
    "texts.py": ["book_text", "read_book"],
}

# The methods that the interface lists for each class, under the names that Python gives to signs.
METHODS = {
    "Book": "__init__ __len__ bodies __getitem__ __contains__ calls saved __eq__".split(),
    "Space": "__init__ rows __len__ __contains__ __add__ __mul__ kept __eq__".split(),
    "Live": "__init__ pen __getitem__ __setitem__ __iadd__ __call__ kept __eq__".split(),
}

# How the interface lists the arguments.
ARGUMENTS = {
    "moved": "pen, command", "vector": "pen", "matrix_of": "command", "applied": "matrix, pen",
    "composed": "one, other", "kept_matrix": "matrix",
    "ran": "book, procedure, bits, *, pen=HOME", "trace": "book, procedure, bits, *, pen=HOME",
    "run_matrix": "book, procedure, bits",
    "table": "book", "body_space": "book, table, procedure, way", "table_fault": "book, thing",
    "basis_runs": "book, procedure, way", "decide": "book, equation", "equation_fault": "book, equation, thing",
    "holds_fault": "book, equations, thing", "named": "word, variables, *, parts=None",
    "equations_of": "book, variables", "rounds": "book, procedure, way",
    "breaking_round": "book, procedure, way, *, count",
    "fewest_saves": "book, equations", "saves_fault": "book, equations, thing",
    "can_swap": "book, procedure, path", "swap_runs": "book, procedure, path", "swapped": "book, procedure, path",
    "book_text": "book", "read_book": "text",
    "Book.__init__": "self, bodies", "Book.bodies": "self", "Book.calls": "self", "Book.saved": "self, calls",
    "Space.__init__": "self, rows", "Space.rows": "self", "Space.kept": "self",
    "Live.__init__": "self, book, *, pen=HOME", "Live.pen": "self", "Live.__call__": "self, procedure, bits",
    "Live.kept": "self, deed",
}


def without_remarks(text):
    """Return a text without its docstrings and comments."""
    tree = ast.parse(text)
    for node in ast.walk(tree):
        if isinstance(node, (ast.Module, ast.ClassDef, ast.FunctionDef)) and ast.get_docstring(node) is not None:
            node.body[0].value.value = ""
    return ast.unparse(tree)


def files():
    return sorted(PACKAGE.rglob("*.py"))


def trees():
    return [(path, ast.parse(path.read_text())) for path in files()]


def nodes():
    return [(path, node) for path, tree in trees() for node in ast.walk(tree)]


class Files(unittest.TestCase):
    def test_the_folder_contains_only_python_files(self):
        found = [path for path in PACKAGE.rglob("*") if "__pycache__" not in path.parts]
        self.assertTrue((PACKAGE / "__init__.py").is_file())
        self.assertEqual([path for path in found if path.suffix != ".py"], [])

    def test_characters_and_sizes(self):
        for path in files():
            text = path.read_bytes().decode("ascii")
            lines = text.split("\n")
            with self.subTest(path=path.name):
                self.assertTrue(all(char == "\n" or " " <= char <= "~" for char in text))
                self.assertLessEqual(len(lines), 399)
                self.assertLessEqual(max(len(line) for line in lines), 120)

    def test_size_of_functions(self):
        for path, node in nodes():
            if isinstance(node, ast.FunctionDef):
                with self.subTest(path=path.name, function=node.name):
                    self.assertLessEqual(node.end_lineno - node.lineno + 1, 40)


class Words(unittest.TestCase):
    def test_imports(self):
        for path, node in nodes():
            self.assertNotIsInstance(node, ast.Import, path.name)
            if isinstance(node, ast.ImportFrom):
                names = [alias.name for alias in node.names]
                with self.subTest(path=path.name, module=node.module):
                    self.assertEqual(node.level, 0)
                    if node.module in LIBRARY:
                        self.assertLessEqual(set(names), set(LIBRARY[node.module]))
                    else:
                        self.assertTrue(node.module.startswith("penhome."))

    def test_builtins(self):
        barred = set(dir(builtins)) - set(BUILTINS)
        for path, node in nodes():
            if isinstance(node, ast.Name):
                self.assertNotIn(node.id, barred, path.name)

    def test_no_builtin_is_given_another_meaning(self):
        for path, node in nodes():
            with self.subTest(path=path.name):
                if isinstance(node, ast.Name) and isinstance(node.ctx, ast.Store):
                    self.assertNotIn(node.id, dir(builtins))
                elif isinstance(node, ast.arg):
                    self.assertNotIn(node.arg, dir(builtins))

    def test_methods(self):
        own = {node.name for _, node in nodes() if isinstance(node, ast.FunctionDef)}
        for path, node in nodes():
            if isinstance(node, ast.Call) and isinstance(node.func, ast.Attribute):
                self.assertIn(node.func.attr, [*BUILTIN_METHODS, *own], path.name)

    def test_attributes_that_are_read_are_assigned(self):
        attributes = [node for _, node in nodes() if isinstance(node, ast.Attribute)]
        own = {node.name for _, node in nodes() if isinstance(node, ast.FunctionDef)}
        stored = {node.attr for node in attributes if isinstance(node.ctx, ast.Store)}
        self.assertLessEqual({node.attr for node in attributes}, stored | own | set(BUILTIN_METHODS))

    def test_no_local_name_is_that_of_a_class_or_an_import(self):
        for path, tree in trees():
            taken = {node.name for node in tree.body if isinstance(node, ast.ClassDef)}
            taken |= {alias.name for node in tree.body if isinstance(node, ast.ImportFrom) for alias in node.names}
            functions = [node for node in ast.walk(tree) if isinstance(node, ast.FunctionDef)]
            for node in [each for function in functions for each in ast.walk(function)]:
                if isinstance(node, ast.Name) and isinstance(node.ctx, ast.Store):
                    self.assertNotIn(node.id, taken, path.name)
                elif isinstance(node, ast.arg):
                    self.assertNotIn(node.arg, taken, path.name)

    def test_each_import_is_used_and_stands_where_it_is_defined(self):
        for path, tree in trees():
            used = {node.id for node in ast.walk(tree) if isinstance(node, ast.Name)}
            for node in tree.body:
                if isinstance(node, ast.ImportFrom):
                    self.assertLessEqual({alias.name for alias in node.names}, used, path.name)
                    self.assertEqual([alias.asname for alias in node.names], [None] * len(node.names))
                    if node.module.startswith("penhome."):
                        self.are_defined(node)

    def are_defined(self, node):
        tree = ast.parse((PACKAGE / (node.module.split(".")[1] + ".py")).read_text())
        found = {each.name for each in tree.body if isinstance(each, (ast.FunctionDef, ast.ClassDef))}
        found |= {each.targets[0].id for each in tree.body if isinstance(each, ast.Assign)}
        self.assertLessEqual({alias.name for alias in node.names}, found)

    def test_no_two_files_import_from_each_other(self):
        modules = {path.stem: [node.module.split(".")[1] for node in tree.body if isinstance(node, ast.ImportFrom)
                               and node.module.startswith("penhome.")] for path, tree in trees()}
        while modules:
            ready = [name for name, needed in modules.items() if not set(needed) & set(modules)]
            self.assertNotEqual(ready, [], modules)
            modules = {name: needed for name, needed in modules.items() if name not in ready}

    def test_barred_words(self):
        for path, node in nodes():
            for field in ("id", "arg", "attr", "name"):
                self.assertNotIn(getattr(node, field, None), BARRED_NAMES, path.name)
        for path in files():
            words = set(re.findall("[A-Za-z_]+", without_remarks(path.read_text())))
            self.assertEqual(words & set(BARRED_WORDS), set(), path.name)
            self.assertEqual(re.findall("dataclass|overload|contextmanager|metaclass=|Meta", path.read_text()), [])

    def test_strings(self):
        for path, node in nodes():
            if isinstance(node, ast.Constant) and isinstance(node.value, str):
                self.assertNotIn("%", node.value, path.name)
                self.assertFalse(node.value.endswith(("._", ".__")), path.name)

    def test_sets_are_not_stored(self):
        for path, node in nodes():
            if isinstance(node, ast.Assign):
                self.assertNotIsInstance(node.value, (ast.Set, ast.SetComp), path.name)
                self.assertFalse(ast.unparse(node.value).startswith("set("), path.name)

    def test_values_are_compared_with_equality(self):
        for path, node in nodes():
            if isinstance(node, ast.Compare):
                for sign, right in zip(node.ops, node.comparators):
                    if isinstance(sign, (ast.Is, ast.IsNot)):
                        self.assertIn(getattr(right, "value", "none"), [None, True, False], path.name)

    def test_no_floats_and_no_division(self):
        for path, node in nodes():
            self.assertNotIsInstance(node, ast.Div, path.name)
            if isinstance(node, ast.Constant):
                self.assertNotIsInstance(node.value, (float, complex), path.name)

    def test_a_loop_stands_in_a_list(self):
        for path, node in nodes():
            self.assertNotIsInstance(node, (ast.GeneratorExp, ast.AsyncFor, ast.Global), path.name)

    def test_what_an_operator_may_run(self):
        # Beside operators, the rules allow += at few places, so it stands nowhere.
        for path, node in nodes():
            self.assertNotIsInstance(node, ast.AugAssign, path.name)
            if isinstance(node, ast.Attribute):
                self.assertNotEqual(node.attr, "sort", path.name)

    def test_classes_that_are_indexed_say_that_they_are_not_iterated_over(self):
        for path, node in nodes():
            if isinstance(node, ast.ClassDef):
                names = [each.name for each in node.body if isinstance(each, ast.FunctionDef)]
                self.assertTrue("__getitem__" not in names or "__iter__" in names, path.name)

    def test_module_level(self):
        allowed = (ast.ImportFrom, ast.FunctionDef, ast.ClassDef, ast.Assign)
        for path, tree in trees():
            rest = tree.body[1:] if ast.get_docstring(tree) is not None else tree.body
            for node in rest:
                self.assertIsInstance(node, allowed, path.name)


class Interface(unittest.TestCase):
    def test_each_name_is_defined_in_its_file(self):
        for name, wanted in INTERFACE.items():
            tree = ast.parse((PACKAGE / name).read_text())
            found = [node.name for node in tree.body if isinstance(node, (ast.FunctionDef, ast.ClassDef))]
            with self.subTest(file=name):
                self.assertLessEqual(set(wanted), set(found))

    def test_each_method_is_defined_in_its_class(self):
        for path, node in nodes():
            if isinstance(node, ast.ClassDef) and node.name in METHODS:
                found = [each.name for each in node.body if isinstance(each, ast.FunctionDef)]
                self.assertLessEqual(set(METHODS[node.name]), set(found))

    def test_arguments(self):
        found = {}
        for _, tree in trees():
            for node in tree.body:
                if isinstance(node, ast.FunctionDef):
                    found[node.name] = ast.unparse(node.args)
                elif isinstance(node, ast.ClassDef):
                    found.update({f"{node.name}.{each.name}": ast.unparse(each.args) for each in node.body
                                  if isinstance(each, ast.FunctionDef)})
        for name, wanted in ARGUMENTS.items():
            self.assertEqual(found[name], wanted, name)
