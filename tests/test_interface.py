"""The interface: what stands in which file, and how; and point 1: no clock, chance or file."""

import ast
import inspect
import pathlib
import unittest

import rulescan
from rulescan import cutting, errors, leasts, patterns, showing, tables, trying

FOLDER = pathlib.Path(rulescan.__file__).parent
FUNCTIONS = {
    patterns: {"signs_of": ["patterns"], "tells": ["pattern", "text"], "told_of": ["patterns", "text"]},
    trying: {"tried": ["patterns", "text"]},
    tables: {"table": ["patterns"]},
    leasts: {"least": ["made"]},
    cutting: {"walk": ["made", "text"], "word": ["made", "text", "at"], "cut": ["made", "text"]},
    showing: {"reach": ["made", "row"], "apart": ["made", "one", "other"]},
}
ALLOWED_LIBRARY = {"heapq", "math", "itertools", "collections"}


class Interface(unittest.TestCase):
    def test_each_function_stands_in_its_file(self):
        for module, functions in FUNCTIONS.items():
            for name, arguments in functions.items():
                with self.subTest(name):
                    function = getattr(module, name)
                    self.assertTrue(inspect.isfunction(function))
                    self.assertEqual(function.__module__, module.__name__)
                    self.assertEqual(list(inspect.signature(function).parameters), arguments)

    def test_each_error_stands_in_its_file(self):
        for name in ("RuleError", "NoPattern", "TooMany", "TooGreat", "NoRow"):
            with self.subTest(name):
                self.assertEqual(getattr(errors, name).__module__, "rulescan.errors")

    def test_what_the_errors_derive_from(self):
        self.assertEqual(errors.RuleError.__bases__, (ValueError,))
        for error in (errors.NoPattern, errors.TooMany, errors.TooGreat, errors.NoRow):
            with self.subTest(error.__name__):
                self.assertEqual(error.__bases__, (errors.RuleError,))

    def test_arguments_may_be_given_by_keyword(self):
        leaf = ("one", "a")
        self.assertEqual(patterns.signs_of(patterns=[leaf]), "a")
        self.assertIs(patterns.tells(pattern=leaf, text="a"), True)
        self.assertEqual(patterns.told_of(patterns=[leaf], text="a"), 0)
        self.assertEqual(trying.tried(patterns=[leaf], text="a"), [(0, 0, 1)])
        made = ("a", [(None, [1]), (0, [None])])
        self.assertEqual(tables.table(patterns=[leaf]), made)
        self.assertEqual(leasts.least(made=made), made)
        self.assertEqual(cutting.walk(made=made, text="a"), 1)
        self.assertEqual(cutting.word(made=made, text="a", at=0), (0, 1))
        self.assertEqual(cutting.cut(made=made, text="a"), [(0, 0, 1)])
        self.assertEqual(showing.reach(made=made, row=1), "a")
        self.assertEqual(showing.apart(made=made, one=0, other=1), "")


class Sources(unittest.TestCase):
    def imported(self, tree):
        for node in ast.walk(tree):
            if isinstance(node, ast.Import):
                yield from [name.name for name in node.names]
            elif isinstance(node, ast.ImportFrom):
                yield node.module

    def test_nothing_is_imported_that_reaches_a_clock_chance_or_files(self):
        for path in sorted(FOLDER.glob("*.py")):
            for name in self.imported(ast.parse(path.read_text(encoding="ascii"))):
                with self.subTest(path.name, imported=name):
                    self.assertIn(name.split(".")[0], ALLOWED_LIBRARY | {"rulescan"})

    def test_nothing_is_called_that_reaches_files(self):
        for path in sorted(FOLDER.glob("*.py")):
            names = {node.id for node in ast.walk(ast.parse(path.read_text())) if isinstance(node, ast.Name)}
            with self.subTest(path.name):
                self.assertEqual(names & {"open", "input", "print", "eval", "exec", "__import__"}, set())


if __name__ == "__main__":
    unittest.main()
