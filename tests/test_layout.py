"""The interface under its names, and the form of the files of the package."""

import ast
import inspect
import unittest
from pathlib import Path

from staycounts import (book, certificates, chains, chances, checker, console, counts, errors, histories, lengths,
                        ranges, report, rules, stays)

FOLDER = Path(errors.__file__).parent
FUNCTIONS = {
    stays: {
        "is_stay": "(counts, value)",
        "obstacle": "(counts, *stays)",
        "possible": "(counts, *stays)",
        "possible_departures": "(counts, arrived, *stays)",
        "possible_arrivals": "(counts, left, *stays)",
        "bounds": "(counts, arrived, left)",
    },
    histories: {
        "is_history": "(counts, value)",
        "has_stays": "(counts, history, *stays)",
        "histories": "(counts)",
        "history_with": "(counts, *stays)",
    },
    ranges: {
        "within": "(counts, first, last)",
        "throughout": "(counts, first, last)",
        "cut": "(counts, first, last)",
        "history_within": "(counts, first, last, number)",
    },
    lengths: {
        "can_keep": "(counts, *, least=0, most=60)",
        "breach": "(counts, *, least=0, most=60)",
        "longest": "(counts)",
        "shortest": "(counts)",
        "long_stays": "(counts, length)",
        "barrier": "(counts, length)",
        "short_barrier": "(counts, length)",
    },
    chances: {
        "ways": "(counts, history=None)",
        "chance": "(counts, history)",
        "stay_chance": "(counts, arrived, left)",
        "mean_within": "(counts, first, last)",
    },
    book: {
        "assign_limit": "(book, value)",
    },
    report: {
        "table": "(counts, *, totals=False)",
    },
    checker: {
        "accepts": "(claim, certificate)",
    },
    certificates: {
        "certify_known": "(counts, *stays)",
        "certify_within": "(counts, first, last)",
        "certify_limits": "(counts, *, least=0, most=60)",
        "certify_long": "(counts, length)",
    },
}
METHODS = {
    counts.Counts: {
        "__init__": "(self, arrivals, departures)",
        "__getitem__": None,
        "__add__": "(self, other)",
        "__len__": "(self)",
        "__eq__": None,
        "__str__": "(self)",
        "__repr__": "(self)",
        "read": "(text)",
        "quiet": "(ticks)",
        "changed": "(self, tick, *, arrivals=None, departures=None)",
        "extended": "(self, arrivals, departures)",
        "without": "(self, *stays)",
    },
    chains.Chain: {
        "__init__": "(self, arrivals, *doors)",
        "__getitem__": None,
        "__len__": "(self)",
        "__eq__": None,
        "__repr__": "(self)",
        "within": "(self, first, last)",
        "cuts": "(self, first, last)",
        "possible_departures": "(self, arrived)",
        "can_keep": "(self, *, least=0, most=60)",
    },
    book.Book: {
        "__init__": "(self, counts, *known)",
        "__len__": "(self)",
        "__eq__": None,
        "__repr__": "(self)",
        "do": "(self, deed)",
        "do_all": "(self, *deeds, watch=None)",
        "undo": "(self)",
        "within": "(self, first, last)",
        "long_stays": "(self, length)",
        "leave_ticks": "(self, arrived)",
    },
    console.Console: {
        "__init__": "(self, text)",
        "execute": "(self, command)",
    },
}
PROPERTIES = {
    counts.Counts: ("present", "people"),
    chains.Chain: ("house",),
    book.Book: ("counts", "known", "others", "max_length", "log"),
}
FILES = {counts.Counts: counts, chains.Chain: chains, book.Book: book, console.Console: console}


class InterfaceTest(unittest.TestCase):
    def test_functions_stand_in_their_file(self):
        for module, functions in FUNCTIONS.items():
            for name, parameters in functions.items():
                function = getattr(module, name)
                self.assertEqual(function.__module__, module.__name__)
                self.assertEqual(str(inspect.signature(function)), parameters)

    def test_methods_stand_in_the_class(self):
        for owner, methods in METHODS.items():
            self.assertEqual(owner.__module__, FILES[owner].__name__)
            self.assertEqual(owner.__bases__, (object,))
            for name, parameters in methods.items():
                self.assertIn(name, vars(owner))
                if parameters is not None:
                    self.assertEqual(str(inspect.signature(getattr(owner, name))), parameters)

    def test_properties_stand_in_the_class(self):
        for owner, names in PROPERTIES.items():
            for name in names:
                self.assertIsInstance(vars(owner)[name], property)
        self.assertIsNotNone(vars(book.Book)["max_length"].fset)

    def test_rules_stand_in_their_file(self):
        made = {rules.Rule: "()", rules.EldestFirst: "()", rules.YoungestFirst: "()",
                rules.MostLong: "(length)", rules.FewestLong: "(length)"}
        for rule, parameters in made.items():
            self.assertEqual(rule.__module__, "staycounts.rules")
            self.assertEqual(str(inspect.signature(rule)), parameters)
            self.assertEqual(str(inspect.signature(rule.__call__)), "(self, counts)")
            self.assertLessEqual({"__call__", "__eq__", "__str__"}, set(vars(rule)))
        self.assertEqual(rules.Rule.__bases__, (object,))
        self.assertIsInstance(vars(rules.Rule)["named"], staticmethod)
        self.assertEqual(str(inspect.signature(rules.Rule.named)), "(name, length=1)")

    def test_counts_are_not_iterated_over(self):
        with self.assertRaises(TypeError):
            list(counts.Counts((1,), (1,)))


class FilesTest(unittest.TestCase):
    def test_the_package_contains_python_files_only(self):
        names = [path.name for path in FOLDER.iterdir() if path.name != "__pycache__"]
        self.assertIn("__init__.py", names)
        self.assertEqual([name for name in names if not name.endswith(".py")], [])

    def test_size_and_characters(self):
        for path in FOLDER.glob("*.py"):
            text = path.read_bytes().decode("ascii")
            lines = text.split("\n")
            self.assertLessEqual(len(lines), 400, path)
            self.assertLessEqual(max(len(line) for line in lines), 120, path)
            self.assertTrue(all(c == "\n" or " " <= c <= "~" for c in text), path)

    def test_functions_are_small(self):
        for path in FOLDER.glob("*.py"):
            for node in ast.walk(ast.parse(path.read_text())):
                if isinstance(node, ast.FunctionDef):
                    self.assertLessEqual(node.end_lineno - node.lineno + 1, 40, (path, node.name))

    def test_imports_come_from_the_package(self):
        for path in FOLDER.glob("*.py"):
            for node in ast.walk(ast.parse(path.read_text())):
                self.assertNotIsInstance(node, ast.Import)
                if isinstance(node, ast.ImportFrom) and node.module != "math":
                    self.assertTrue(node.module.startswith("staycounts."), (path, node.module))
