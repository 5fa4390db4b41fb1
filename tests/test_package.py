"""The interface: names, parameters and methods; what the files of the package may look like; the README."""

import ast
import doctest
import inspect
import pathlib
import unittest

import lapseseats
from lapseseats import comparing, days, deciding, desk, errors, forms, live, logs, plays, rules, splits

TOP = pathlib.Path(__file__).resolve().parent.parent
FILES = sorted((TOP / "lapseseats").rglob("*.py"))

PARAMETERS = (
    (rules.Rule, "(seats, lapse, beat, grace, late=0)"),
    (rules.Rule.read, "(text)"),
    (rules.Rule.but, "(self, word, number)"),
    (days.Day, "(events=())"),
    (days.Day.read, "(text)"),
    (plays.play, "(rule, day)"),
    (plays.possible, "(rule, day, event)"),
    (deciding.most, "(rule, users)"),
    (deciding.happens, "(rule, users, fault)"),
    (deciding.faults, "(rule, users)"),
    (deciding.least_events, "(rule, users, fault)"),
    (deciding.day, "(rule, users, fault)"),
    (deciding.longest_kept, "(rule)"),
    (forms.per_seat, "(rule)"),
    (forms.safe_lapse, "(rule)"),
    (forms.safe_grace, "(rule)"),
    (forms.fine_beats, "(rule, longest)"),
    (forms.choices, "(rule, longest)"),
    (forms.least_words, "(rule, span)"),
    (forms.longest_alone, "(rule)"),
    (logs.fits, "(rule, log)"),
    (logs.first_misfit, "(rule, log)"),
    (logs.can_use, "(rule, log, moment)"),
    (logs.surely_use, "(rule, log, moment)"),
    (logs.calm, "(rule, log, moment)"),
    (splits.unserved, "(seats, here, wishes)"),
    (splits.best_splits, "(seats, wishes)"),
    (comparing.no_more, "(p, q)"),
    (comparing.beats, "(p, q)"),
    (comparing.best_of, "(rules)"),
    (live.Live, "(rule)"),
    (live.Live.do, "(self, event)"),
    (live.Live.several, "(self, events)"),
    (live.Live.follow, "(self, rule)"),
    (live.Live.undo, "(self)"),
    (live.Live.trial, "(self)"),
    (live.Live.within, "(self, work)"),
    (desk.Desk, "()"),
    (desk.Desk.say, "(self, command)"),
    (errors.InvalidRule, "(word)"),
    (errors.InvalidDay, "(at)"),
    (errors.InvalidText, "(at)"),
    (errors.InvalidFault, "()"),
    (errors.InvalidLog, "(at)"),
    (errors.InvalidCommand, "()"),
    (errors.Refused, "(at)"),
)

METHODS = (
    (rules.Rule, ("__init__", "read", "but", "__eq__", "__str__")),
    (days.Day, ("__init__", "read", "__len__", "__getitem__", "__add__", "__eq__", "__str__")),
    (live.Live, ("__init__", "do", "several", "follow", "undo", "trial", "within", "__len__")),
    (desk.Desk, ("__init__", "say", "__len__")),
)

MODULES = (
    "errors", "basics", "rules", "days", "plays", "deciding", "forms", "logs", "splits", "comparing", "live", "desk",
)

DEFINED = {
    "errors": (
        "SeatError", "InvalidRule", "InvalidDay", "InvalidText", "InvalidFault", "InvalidLog", "InvalidCommand", "Refused",
    ),
    "rules": ("Rule",),
    "days": ("Day",),
    "plays": ("play", "possible", "Played"),
    "deciding": ("most", "happens", "faults", "least_events", "day", "longest_kept"),
    "forms": ("per_seat", "safe_lapse", "safe_grace", "fine_beats", "choices", "least_words", "longest_alone"),
    "logs": ("fits", "first_misfit", "can_use", "surely_use", "calm"),
    "splits": ("unserved", "best_splits"),
    "comparing": ("no_more", "beats", "best_of"),
    "live": ("Live",),
    "desk": ("Desk",),
}


class InterfaceTest(unittest.TestCase):
    def test_parameters(self):
        for called, expected in PARAMETERS:
            self.assertEqual(str(inspect.signature(called)), expected, called)

    def test_methods_stand_in_the_class_itself(self):
        for owner, names in METHODS:
            for name in names:
                self.assertIn(name, vars(owner))

    def test_functions_and_classes_are_defined_in_their_files(self):
        for module in (errors, rules, days, plays, deciding, forms, logs, splits, comparing, live, desk):
            file = ast.parse(pathlib.Path(module.__file__).read_text())
            defined = {node.name for node in file.body if isinstance(node, (ast.FunctionDef, ast.ClassDef))}
            for name in DEFINED[module.__name__.split(".")[1]]:
                self.assertIn(name, defined)
                self.assertEqual(getattr(module, name).__module__, module.__name__)

    def test_attributes_are_set_when_an_object_is_created(self):
        told = plays.play(rules.Rule(1, 1, 1, 1), days.Day())
        self.assertLessEqual({"using", "kept", "cut", "moment", "met", "peak"}, set(vars(told)))
        self.assertLessEqual({"rule", "day", "played"}, set(vars(live.Live(rules.Rule(1, 1, 1, 1)))))

    def test_each_module_needs_only_earlier_ones(self):
        for at, name in enumerate(MODULES):
            file = ast.parse((TOP / "lapseseats" / f"{name}.py").read_text())
            needed = {node.module for node in ast.walk(file) if isinstance(node, ast.ImportFrom)}
            self.assertLessEqual(needed, {f"lapseseats.{other}" for other in MODULES[:at]}, name)

    def test_all_modules_are_in_that_order(self):
        self.assertEqual(sorted(path.stem for path in FILES), sorted(("__init__", *MODULES)))

    def test_the_package_is_empty_but_for_a_docstring(self):
        tree = ast.parse((TOP / "lapseseats" / "__init__.py").read_text())
        self.assertEqual(len(tree.body), 1)
        self.assertTrue(lapseseats.__doc__)


class FilesTest(unittest.TestCase):
    def test_the_folder_contains_python_files_only(self):
        for path in (TOP / "lapseseats").rglob("*"):
            if "__pycache__" not in path.parts:
                self.assertEqual(path.suffix, ".py", path)

    def test_characters_and_lengths(self):
        for path in FILES:
            text = path.read_bytes().decode("ascii")
            self.assertTrue(all(sign == "\n" or " " <= sign <= "~" for sign in text), path)
            lines = text.split("\n")
            self.assertLess(len(lines), 400, path)
            self.assertLessEqual(max(map(len, lines)), 120, path)

    def test_functions_are_short(self):
        for path in FILES:
            for node in ast.walk(ast.parse(path.read_text())):
                if isinstance(node, ast.FunctionDef):
                    self.assertLessEqual(node.end_lineno - node.lineno, 39, f"{path}: {node.name}")

    def test_imports_are_from_the_package(self):
        library = {"heapq", "math", "itertools"}
        for path in FILES:
            for node in ast.walk(ast.parse(path.read_text())):
                self.assertNotIsInstance(node, ast.Import, path)
                if isinstance(node, ast.ImportFrom):
                    self.assertEqual(node.level, 0, path)
                    self.assertTrue(node.module.startswith("lapseseats.") or node.module in library, path)


class ReadmeTest(unittest.TestCase):
    def test_its_examples(self):
        told = doctest.testfile(str(TOP / "README.md"), module_relative=False)
        self.assertGreater(told.attempted, 0)
        self.assertEqual(told.failed, 0)


if __name__ == "__main__":
    unittest.main()
