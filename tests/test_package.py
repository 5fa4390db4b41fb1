"""The interface: names, parameters and methods; what the files of the package may look like; the README."""

import ast
import doctest
import inspect
import pathlib
import unittest

import lapseseats
from lapseseats import days, errors, rules

TOP = pathlib.Path(__file__).resolve().parent.parent
FILES = sorted((TOP / "lapseseats").rglob("*.py"))

PARAMETERS = (
    (rules.Rule, "(seats, lapse, beat, grace, late=0)"),
    (rules.Rule.read, "(text)"),
    (rules.Rule.but, "(self, word, number)"),
    (days.Day, "(events=())"),
    (days.Day.read, "(text)"),
    (errors.InvalidRule, "(word)"),
    (errors.InvalidDay, "(at)"),
    (errors.InvalidText, "(at)"),
    (errors.InvalidFault, "()"),
    (errors.InvalidLog, "(at)"),
    (errors.InvalidCommand, "()"),
    (errors.Refused, "(at)"),
)

METHODS = (
    (rules.Rule, ("__init__", "read", "but", "__eq__", "__str__")),
    (days.Day, ("__init__", "read", "__len__", "__getitem__", "__add__", "__eq__", "__str__")),
)


class InterfaceTest(unittest.TestCase):
    def test_parameters(self):
        for called, expected in PARAMETERS:
            self.assertEqual(str(inspect.signature(called)), expected, called)

    def test_methods_stand_in_the_class_itself(self):
        for owner, names in METHODS:
            for name in names:
                self.assertIn(name, vars(owner))

    def test_classes_are_defined_in_their_files(self):
        self.assertEqual(rules.Rule.__module__, "lapseseats.rules")
        self.assertEqual(days.Day.__module__, "lapseseats.days")

    def test_the_package_is_empty_but_for_a_docstring(self):
        tree = ast.parse((TOP / "lapseseats" / "__init__.py").read_text())
        self.assertEqual(len(tree.body), 1)
        self.assertTrue(lapseseats.__doc__)


class FilesTest(unittest.TestCase):
    def test_the_folder_contains_python_files_only(self):
        for path in (TOP / "lapseseats").rglob("*"):
            if "__pycache__" not in path.parts:
                self.assertEqual(path.suffix, ".py", path)

    def test_characters_and_lengths(self):
        for path in FILES:
            text = path.read_bytes().decode("ascii")
            self.assertTrue(all(sign == "\n" or " " <= sign <= "~" for sign in text), path)
            lines = text.split("\n")
            self.assertLess(len(lines), 400, path)
            self.assertLessEqual(max(map(len, lines)), 120, path)

    def test_functions_are_short(self):
        for path in FILES:
            for node in ast.walk(ast.parse(path.read_text())):
                if isinstance(node, ast.FunctionDef):
                    self.assertLessEqual(node.end_lineno - node.lineno, 39, f"{path}: {node.name}")

    def test_imports_are_from_the_package(self):
        library = {"heapq", "math", "itertools"}
        for path in FILES:
            for node in ast.walk(ast.parse(path.read_text())):
                self.assertNotIsInstance(node, ast.Import, path)
                if isinstance(node, ast.ImportFrom):
                    self.assertEqual(node.level, 0, path)
                    self.assertTrue(node.module.startswith("lapseseats.") or node.module in library, path)


class ReadmeTest(unittest.TestCase):
    def test_its_examples(self):
        told = doctest.testfile(str(TOP / "README.md"), module_relative=False)
        self.assertGreater(told.attempted, 0)
        self.assertEqual(told.failed, 0)


if __name__ == "__main__":
    unittest.main()
