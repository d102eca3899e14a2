"""The interface under its names, and the form of the files of the package."""

import ast
import inspect
import unittest
from pathlib import Path

from staycounts import counts, errors, stays

FOLDER = Path(errors.__file__).parent
FUNCTIONS = {
    "is_stay": "(counts, value)",
    "obstacle": "(counts, *stays)",
    "possible": "(counts, *stays)",
    "possible_departures": "(counts, arrived, *stays)",
    "possible_arrivals": "(counts, left, *stays)",
    "bounds": "(counts, arrived, left)",
}
METHODS = {
    "__init__": "(self, arrivals, departures)",
    "__getitem__": None,
    "__add__": "(self, other)",
    "__len__": "(self)",
    "__eq__": None,
    "__str__": "(self)",
    "__repr__": "(self)",
    "read": "(text)",
    "quiet": "(ticks)",
    "changed": "(self, tick, *, arrivals=None, departures=None)",
    "extended": "(self, arrivals, departures)",
    "without": "(self, *stays)",
}


class InterfaceTest(unittest.TestCase):
    def test_functions_stand_in_their_file(self):
        for name, parameters in FUNCTIONS.items():
            function = getattr(stays, name)
            self.assertEqual(function.__module__, "staycounts.stays")
            self.assertEqual(str(inspect.signature(function)), parameters)

    def test_methods_stand_in_the_class(self):
        self.assertEqual(counts.Counts.__module__, "staycounts.counts")
        self.assertEqual(counts.Counts.__bases__, (object,))
        for name, parameters in METHODS.items():
            self.assertIn(name, vars(counts.Counts))
            if parameters is not None:
                self.assertEqual(str(inspect.signature(getattr(counts.Counts, name))), parameters)

    def test_counts_are_not_iterated_over(self):
        with self.assertRaises(TypeError):
            list(counts.Counts((1,), (1,)))


class FilesTest(unittest.TestCase):
    def test_the_package_contains_python_files_only(self):
        names = [path.name for path in FOLDER.iterdir() if path.name != "__pycache__"]
        self.assertIn("__init__.py", names)
        self.assertEqual([name for name in names if not name.endswith(".py")], [])

    def test_size_and_characters(self):
        for path in FOLDER.glob("*.py"):
            text = path.read_bytes().decode("ascii")
            lines = text.split("\n")
            self.assertLessEqual(len(lines), 400, path)
            self.assertLessEqual(max(len(line) for line in lines), 120, path)
            self.assertTrue(all(c == "\n" or " " <= c <= "~" for c in text), path)

    def test_functions_are_small(self):
        for path in FOLDER.glob("*.py"):
            for node in ast.walk(ast.parse(path.read_text())):
                if isinstance(node, ast.FunctionDef):
                    self.assertLessEqual(node.end_lineno - node.lineno + 1, 40, (path, node.name))

    def test_imports_come_from_the_package(self):
        for path in FOLDER.glob("*.py"):
            for node in ast.walk(ast.parse(path.read_text())):
                self.assertNotIsInstance(node, ast.Import)
                if isinstance(node, ast.ImportFrom):
                    self.assertTrue(node.module.startswith("staycounts."), (path, node.module))
