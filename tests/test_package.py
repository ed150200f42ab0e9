"""The names that the interface lists, and what is easy to see of the language's rules."""

import ast
import importlib
import pathlib
import unittest

FOLDER = pathlib.Path(__file__).parent.parent / "risingknobs"

FUNCTIONS = {
    "regions": ("hull", "box", "whole", "lies_under", "rise", "all_regions"),
}
CLASSES = {
    "errors": {name: () for name in (
        "RiseError", "BadNumber", "BadText", "BadOption", "BadSetting", "BadRegion", "UnlikeGrids", "AlikeWorths",
        "NothingToShow", "NothingToUndo")},
    "grids": {
        "Grid": ("__init__", "lesser", "greater", "is_below", "steps", "up", "__eq__", "__len__", "__contains__",
                 "__iter__", "__str__", "read"),
    },
    "regions": {
        "Region": ("__init__", "least", "greatest", "__and__", "__eq__", "__len__", "__contains__", "__iter__",
                   "__str__", "read"),
    },
}


def files():
    """The files of the package with their texts."""
    return [(path, path.read_text(encoding="utf-8")) for path in sorted(FOLDER.glob("*.py"))]


class TestInterface(unittest.TestCase):

    def test_functions_are_defined_where_they_are_listed(self):
        for name, functions in FUNCTIONS.items():
            module = importlib.import_module("risingknobs." + name)
            for function in functions:
                self.assertEqual(getattr(module, function).__module__, module.__name__, function)

    def test_classes_define_the_methods_that_are_listed(self):
        for name, classes in CLASSES.items():
            module = importlib.import_module("risingknobs." + name)
            for kind, methods in classes.items():
                self.assertEqual(getattr(module, kind).__module__, module.__name__, kind)
                for method in methods:
                    self.assertIn(method, vars(getattr(module, kind)), kind)


class TestLanguage(unittest.TestCase):

    def test_the_folder_holds_files_of_python_alone(self):
        others = [path.name for path in FOLDER.iterdir() if path.suffix != ".py" and path.name != "__pycache__"]
        self.assertEqual(others, [])

    def test_characters_and_sizes(self):
        for path, text in files():
            lines = text.split("\n")
            self.assertLessEqual(len(lines), 399, path.name)
            for line in lines:
                self.assertTrue(all(" " <= letter <= "~" for letter in line), path.name)
                self.assertLessEqual(len(line), 120, path.name)
            for node in ast.walk(ast.parse(text)):
                if isinstance(node, ast.FunctionDef):
                    self.assertLessEqual(node.end_lineno - node.lineno + 1, 40, node.name)

    def test_imports_come_from_the_package(self):
        for path, text in files():
            for node in ast.walk(ast.parse(text)):
                self.assertNotIsInstance(node, ast.Import, path.name)
                if isinstance(node, ast.ImportFrom):
                    self.assertTrue(node.module.startswith("risingknobs."), path.name)


if __name__ == "__main__":
    unittest.main()
