"""The names, arguments and places that the interface of the document lists."""

import ast
import importlib
import inspect
import pathlib
import unittest

import oddlines
from oddlines import bounds, errors
from oddlines.desks import Desk

FUNCTIONS = {
    "webs": {
        "web_error": ["value"],
        "numbers": ["web"],
        "has_line": ["web", "a", "b"],
        "contrary": ["web"],
        "renamed": ["web", "order"],
        "one_more": ["web", "is_tied"],
    },
    "webtexts": {"web_text": ["web"], "read_web": ["value"]},
    "rows": {
        "row_error": ["many", "value"],
        "web_with": ["row"],
        "is_webs": ["row"],
        "level_of": ["row"],
    },
    "bars": {"bar": ["row"], "bar_error": ["row", "value"]},
    "deeds": {
        "deed_error": ["web", "value"],
        "done": ["web", "deed"],
        "led": ["web", "some"],
        "draws": ["web"],
        "strikes": ["web"],
        "exchanges": ["web"],
        "back": ["deed"],
        "turned": ["some"],
    },
    "deedtexts": {"deeds_text": ["some"], "read_deeds": ["value"]},
    "exchanging": {
        "by_exchanges": ["one", "other"],
        "without_line": ["row", "a", "b"],
        "with_line": ["row", "a", "b"],
    },
    "oddsets": {
        "odd_set": ["web"],
        "set_error": ["many", "value"],
        "set_count": ["many"],
        "set_at": ["many", "number"],
        "number_of_set": ["many", "chosen"],
        "web_for": ["many", "chosen"],
    },
    "marks": {"mark": ["one", "other"], "joined": ["one", "other"]},
    "joining": {
        "way": ["one", "other"],
        "paper": ["one", "other"],
        "paper_error": ["one", "other", "value"],
    },
    "locks": {
        "trial_row": ["many", "chosen", "number", "c"],
        "locked": ["many", "chosen"],
        "thrice": ["many", "chosen", "number"],
        "lock_paper": ["many", "chosen", "number"],
        "lock_error": ["many", "chosen", "number", "value"],
    },
    "classes": {
        "holders": ["web"],
        "class_of": ["web"],
        "classes_of": ["many", "chosen"],
        "class_count": ["many"],
        "class_web": ["many", "chosen", "people"],
    },
    "spreads": {
        "spreads": ["many", "chosen"],
        "fewest": ["many", "chosen"],
        "most": ["many", "chosen"],
        "may_have": ["web", "person"],
        "way_to": ["web", "person", "number"],
    },
    "desks": {"desk_behind": ["web", "log"]},
}
CLASSES = {
    "desks": {
        "Desk": {
            "__init__": ["web"],
            "draw": ["a", "b"],
            "strike": ["a", "b"],
            "exchange": ["a", "b", "c", "e"],
            "undo": [],
            "redo": [],
            "at": ["version"],
            "copy": [],
            "may": ["a", "b"],
            "way_to": ["web"],
            "__eq__": ["other"],
        },
    },
    "shells": {"Shell": {"__init__": [], "say": ["line"]}},
}
PROPERTIES = ["web", "numbers", "odd_set", "holders", "version", "log"]
BOUNDS = {
    "MAX_PEOPLE": 10,
    "MAX_SPREAD": 7,
    "MAX_COUNTED": 1000,
    "MAX_DEEDS": 20000,
    "MAX_EDITS": 40,
}
ERRORS = [
    "Unfit", "BadText", "BadWeb", "Refused", "Apart", "TooMany", "TooManyEdits",
    "NothingToUndo", "NothingToRedo", "NoVersion", "BadLog",
]


def defined_in(file, kind):
    """The names that statements of this kind define at the top of a file of the package."""
    path = pathlib.Path(oddlines.__file__).parent / file
    return [node.name for node in ast.parse(path.read_text()).body if isinstance(node, kind)]


class Interface(unittest.TestCase):

    def test_bounds(self):
        for name, wanted in BOUNDS.items():
            self.assertIs(type(getattr(bounds, name)), int, name)
            self.assertEqual(getattr(bounds, name), wanted, name)

    def check_arguments(self, told, wanted, name):
        kinds = inspect.signature(told).parameters.values()
        self.assertEqual([kind.name for kind in kinds], wanted, name)
        for kind in kinds:
            self.assertEqual(kind.kind, inspect.Parameter.POSITIONAL_OR_KEYWORD, name)
            self.assertEqual(kind.default, inspect.Parameter.empty, name)

    def test_functions_take_the_arguments_told_in_the_order_told(self):
        for module, functions in FUNCTIONS.items():
            for name, wanted in functions.items():
                told = getattr(importlib.import_module("oddlines." + module), name)
                self.check_arguments(told, wanted, name)

    def test_methods_are_defined_in_their_classes_and_take_the_arguments_told(self):
        for module, classes in CLASSES.items():
            for name, methods in classes.items():
                self.assertIn(name, defined_in(module + ".py", ast.ClassDef))
                told = getattr(importlib.import_module("oddlines." + module), name)
                for method, wanted in methods.items():
                    self.assertIn(method, vars(told), name)
                    self.check_arguments(vars(told)[method], ["self", *wanted], method)

    def test_what_is_read_of_a_desk_are_properties_of_its_class(self):
        for name in PROPERTIES:
            self.assertIsInstance(vars(Desk)[name], property, name)
            with self.assertRaises(AttributeError):
                setattr(Desk((2, ())), name, None)

    def test_functions_are_defined_where_they_are_listed(self):
        for module, functions in FUNCTIONS.items():
            defined = defined_in(module + ".py", ast.FunctionDef)
            for name in functions:
                self.assertIn(name, defined)

    def test_errors_are_defined_where_they_are_listed_and_no_others(self):
        self.assertEqual(sorted(defined_in("errors.py", ast.ClassDef)), sorted(["OddError"] + ERRORS))
        for name in ["OddError"] + ERRORS:
            self.assertTrue(inspect.isclass(getattr(errors, name)), name)

    def test_the_package_holds_only_python_files(self):
        folder = pathlib.Path(oddlines.__file__).parent
        others = [path.name for path in folder.iterdir() if path.suffix != ".py"]
        self.assertEqual([name for name in others if name != "__pycache__"], [])


if __name__ == "__main__":
    unittest.main()
