"""The head of the interface: each name, with its arguments, in the file that lists it."""

import ast
import importlib
import inspect
import pathlib
import unittest

PACKAGE = pathlib.Path(__file__).resolve().parent.parent / "setsums"

FUNCTIONS = {
    "sets": {
        "size_of": ["one"],
        "is_part": ["one", "other"],
        "parts": ["one"],
        "members": ["one"],
        "set_of": ["names"],
    },
    "tables": {
        "names_of": ["table"],
        "blank": ["many"],
        "lone": ["many", "one"],
        "added": ["one", "other"],
        "multiplied": ["one", "other"],
        "contrary": ["table"],
    },
    "sums": {
        "below": ["table"],
        "above": ["table"],
        "signed": ["table"],
        "from_below": ["table"],
        "from_above": ["table"],
        "from_signed": ["table"],
    },
    "ranks": {
        "ranked": ["table"],
        "from_ranked": ["tables"],
    },
    "products": {
        "joined": ["one", "other"],
        "met": ["one", "other"],
        "apart": ["one", "other"],
        "crossed": ["one", "other"],
    },
    "names": {
        "reordered": ["table", "order"],
        "with_name": ["without", "holding", "name"],
        "parted": ["table", "name"],
    },
    "covers": {
        "covers": ["many", "sets", "long"],
        "fewest": ["many", "sets"],
        "least_cover": ["many", "sets"],
    },
}

CLASSES = {
    "errors": [
        "SetError", "BadCount", "BadSet", "BadName", "BadNumber", "BadOrder", "BadTable", "Unlike", "NoCover",
        "NothingDone",
    ],
    "book": ["Book"],
}

METHODS = {
    "__init__": ["self", "many"],
    "put": ["self", "one", "number"],
    "swap": ["self", "name", "other"],
    "undo": ["self"],
    "value": ["self", "one"],
    "under": ["self", "one"],
    "over": ["self", "one"],
    "table": ["self"],
    "many_done": ["self"],
}


def defined_in(file_name, kind):
    """The names that a file defines itself, at its top."""
    tree = ast.parse((PACKAGE / f"{file_name}.py").read_text(encoding="utf-8"))
    return [node.name for node in tree.body if isinstance(node, kind)]


class InterfaceTest(unittest.TestCase):
    def assert_arguments(self, function, arguments):
        parameters = inspect.signature(function).parameters
        self.assertEqual(list(parameters), arguments)
        for parameter in parameters.values():
            self.assertIs(parameter.kind, inspect.Parameter.POSITIONAL_OR_KEYWORD)
            self.assertIs(parameter.default, inspect.Parameter.empty)

    def test_each_function_stands_in_its_file_with_its_arguments(self):
        for file_name, functions in FUNCTIONS.items():
            module = importlib.import_module(f"setsums.{file_name}")
            defined = defined_in(file_name, ast.FunctionDef)
            for name, arguments in functions.items():
                self.assertIn(name, defined)
                self.assert_arguments(getattr(module, name), arguments)

    def test_each_class_stands_in_its_file(self):
        for file_name, names in CLASSES.items():
            defined = defined_in(file_name, ast.ClassDef)
            for name in names:
                self.assertIn(name, defined)

    def test_the_book_defines_each_method_itself_with_its_arguments(self):
        book = importlib.import_module("setsums.book").Book
        for name, arguments in METHODS.items():
            self.assertIn(name, vars(book))
            self.assert_arguments(vars(book)[name], arguments)


if __name__ == "__main__":
    unittest.main()
