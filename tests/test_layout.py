"""The interface under its names, and the form of the files of the package."""

import ast
import inspect
import unittest
from pathlib import Path

from staycounts import counts, errors, histories, lengths, ranges, rules, stays

FOLDER = Path(errors.__file__).parent
FUNCTIONS = {
    stays: {
        "is_stay": "(counts, value)",
        "obstacle": "(counts, *stays)",
        "possible": "(counts, *stays)",
        "possible_departures": "(counts, arrived, *stays)",
        "possible_arrivals": "(counts, left, *stays)",
        "bounds": "(counts, arrived, left)",
    },
    histories: {
        "is_history": "(counts, value)",
        "has_stays": "(counts, history, *stays)",
        "histories": "(counts)",
        "history_with": "(counts, *stays)",
    },
    ranges: {
        "within": "(counts, first, last)",
        "throughout": "(counts, first, last)",
        "cut": "(counts, first, last)",
        "history_within": "(counts, first, last, number)",
    },
    lengths: {
        "can_keep": "(counts, *, least=0, most=60)",
        "breach": "(counts, *, least=0, most=60)",
        "longest": "(counts)",
        "shortest": "(counts)",
        "long_stays": "(counts, length)",
        "barrier": "(counts, length)",
        "short_barrier": "(counts, length)",
    },
}
METHODS = {
    "__init__": "(self, arrivals, departures)",
    "__getitem__": None,
    "__add__": "(self, other)",
    "__len__": "(self)",
    "__eq__": None,
    "__str__": "(self)",
    "__repr__": "(self)",
    "read": "(text)",
    "quiet": "(ticks)",
    "changed": "(self, tick, *, arrivals=None, departures=None)",
    "extended": "(self, arrivals, departures)",
    "without": "(self, *stays)",
}


class InterfaceTest(unittest.TestCase):
    def test_functions_stand_in_their_file(self):
        for module, functions in FUNCTIONS.items():
            for name, parameters in functions.items():
                function = getattr(module, name)
                self.assertEqual(function.__module__, module.__name__)
                self.assertEqual(str(inspect.signature(function)), parameters)

    def test_methods_stand_in_the_class(self):
        self.assertEqual(counts.Counts.__module__, "staycounts.counts")
        self.assertEqual(counts.Counts.__bases__, (object,))
        for name, parameters in METHODS.items():
            self.assertIn(name, vars(counts.Counts))
            if parameters is not None:
                self.assertEqual(str(inspect.signature(getattr(counts.Counts, name))), parameters)

    def test_rules_stand_in_their_file(self):
        made = {rules.Rule: "()", rules.EldestFirst: "()", rules.YoungestFirst: "()",
                rules.MostLong: "(length)", rules.FewestLong: "(length)"}
        for rule, parameters in made.items():
            self.assertEqual(rule.__module__, "staycounts.rules")
            self.assertEqual(str(inspect.signature(rule)), parameters)
            self.assertEqual(str(inspect.signature(rule.__call__)), "(self, counts)")
            self.assertLessEqual({"__call__", "__eq__", "__str__"}, set(vars(rule)))
        self.assertEqual(rules.Rule.__bases__, (object,))
        self.assertIsInstance(vars(rules.Rule)["named"], staticmethod)
        self.assertEqual(str(inspect.signature(rules.Rule.named)), "(name, length=1)")

    def test_counts_are_not_iterated_over(self):
        with self.assertRaises(TypeError):
            list(counts.Counts((1,), (1,)))


class FilesTest(unittest.TestCase):
    def test_the_package_contains_python_files_only(self):
        names = [path.name for path in FOLDER.iterdir() if path.name != "__pycache__"]
        self.assertIn("__init__.py", names)
        self.assertEqual([name for name in names if not name.endswith(".py")], [])

    def test_size_and_characters(self):
        for path in FOLDER.glob("*.py"):
            text = path.read_bytes().decode("ascii")
            lines = text.split("\n")
            self.assertLessEqual(len(lines), 400, path)
            self.assertLessEqual(max(len(line) for line in lines), 120, path)
            self.assertTrue(all(c == "\n" or " " <= c <= "~" for c in text), path)

    def test_functions_are_small(self):
        for path in FOLDER.glob("*.py"):
            for node in ast.walk(ast.parse(path.read_text())):
                if isinstance(node, ast.FunctionDef):
                    self.assertLessEqual(node.end_lineno - node.lineno + 1, 40, (path, node.name))

    def test_imports_come_from_the_package(self):
        for path in FOLDER.glob("*.py"):
            for node in ast.walk(ast.parse(path.read_text())):
                self.assertNotIsInstance(node, ast.Import)
                if isinstance(node, ast.ImportFrom):
                    self.assertTrue(node.module.startswith("staycounts."), (path, node.module))
