"""The names that the interface lists, and what is easy to see of the language's rules."""

import ast
import importlib
import inspect
import pathlib
import unittest

FOLDER = pathlib.Path(__file__).parent.parent / "risingknobs"

FUNCTIONS = {
    "regions": ("hull", "box", "whole", "lies_under", "rise", "all_regions"),
    "best": ("best", "bests", "top_best", "low_best", "climbs", "halved"),
    "crossing": ("knob_witness", "setting_witness", "is_crossing", "fall", "is_fall"),
    "lifting": ("lift_witness", "step_witness", "is_lifting", "price_fall"),
    "stretches": ("stretches", "stretch_witness", "crosses_in_stretches", "falling_stretch", "peaks",
                  "is_single_peaked"),
    "signals": ("negative_minor", "is_ordered", "is_crossing_row"),
    "payoffs": ("crosses_in_state", "expected", "chosen", "rises_behind", "payoff_fall", "is_payoff_fall"),
    "rivals": ("is_rising", "always_rests", "falling_reply", "rests", "all_rivals", "restless", "climb", "descend"),
    "leading": ("leads", "chain", "lead_witness", "lead_fall"),
}
CLASSES = {
    "errors": {name: () for name in (
        "RiseError", "BadNumber", "BadText", "BadOption", "BadSetting", "BadRegion", "UnlikeGrids", "AlikeWorths",
        "NothingToShow", "NothingToUndo")},
    "grids": {
        "Grid": ("__init__", "lesser", "greater", "is_below", "steps", "up", "__eq__", "__len__", "__contains__",
                 "__iter__", "__str__", "read"),
    },
    "regions": {
        "Region": ("__init__", "least", "greatest", "__and__", "__eq__", "__len__", "__contains__", "__iter__",
                   "__str__", "read"),
    },
    "tables": {
        "Table": ("__init__", "__call__", "row", "__add__", "part", "less", "__eq__", "__str__", "read"),
        "Prices": ("__init__", "__call__", "rows", "__eq__"),
    },
    "signals": {
        "Signals": ("__init__", "weight", "minor", "total", "row", "joined", "part", "__eq__"),
    },
    "rivals": {
        "Player": ("__init__", "worth", "reply", "replies"),
    },
    "games": {
        "Game": ("__init__", "payoff", "replies", "is_rest", "rests", "wavering", "is_crossing", "climb", "descend",
                 "by_turns"),
    },
    "hidden": {
        "Hidden": ("__init__", "tell", "told", "undo", "__len__", "low", "high", "many", "says", "best", "rests",
                   "least_rest", "greatest_rest"),
    },
    "panel": {
        "Panel": ("__init__", "change", "charge", "allow", "swap", "undo", "table", "region", "best", "supposed",
                  "falls", "held", "changed", "__len__"),
    },
}
# What the interface lists of the arguments, where the other tests do not show all of it.
SIGNATURES = {
    "tables": {"Table": "(grid, rows)", "Table.__call__": "(self, option, setting=0)", "Table.row": "(self, setting)",
               "Table.part": "(self, settings)", "Table.less": "(self, prices)", "Table.read": "(text)",
               "Prices": "(grid, rows)", "Prices.__call__": "(self, option)", "Prices.rows": "(self)"},
    "best": {"best": "(table, region, *, setting=0)", "bests": "(table, region)",
             "top_best": "(table, region, *, setting=0)", "low_best": "(table, region, *, setting=0)",
             "climbs": "(table, region)", "halved": "(table, region)"},
    "crossing": {"knob_witness": "(table)", "setting_witness": "(table)", "is_crossing": "(table)", "fall": "(table)",
                 "is_fall": "(table, first, second, early, late)"},
    "lifting": {"lift_witness": "(table)", "step_witness": "(table)", "is_lifting": "(table)", "price_fall": "(table)"},
    "stretches": {"stretches": "(grid)", "stretch_witness": "(table)", "crosses_in_stretches": "(table)",
                  "falling_stretch": "(table)", "peaks": "(table, setting)", "is_single_peaked": "(table, setting)"},
    "signals": {"Signals": "(weights)", "Signals.weight": "(self, signal, state)", "Signals.row": "(self, signal)",
                "Signals.minor": "(self, first, second, state, later)", "Signals.total": "(self, signal, values)",
                "Signals.joined": "(self, first, second)", "Signals.part": "(self, states)",
                "negative_minor": "(signals)", "is_ordered": "(signals)", "is_crossing_row": "(values)"},
    "payoffs": {"crosses_in_state": "(payoff)", "expected": "(payoff, signals)", "chosen": "(payoff, signals)",
                "rises_behind": "(payoff, signals)", "payoff_fall": "(signals)",
                "is_payoff_fall": "(signals, payoff, early, late)"},
    "rivals": {"Player": "(worths)", "Player.worth": "(self, own, other)", "Player.reply": "(self, other)",
               "Player.replies": "(self)", "is_rising": "(player)", "falling_reply": "(player)",
               "rests": "(player, rival)", "all_rivals": "(player)", "restless": "(player)",
               "always_rests": "(player)", "climb": "(player, rival)", "descend": "(player, rival)"},
    "games": {"Game": "(tables)", "Game.payoff": "(self, player)",
              "Game.replies": "(self, player, option, *, setting=0)", "Game.is_rest": "(self, option, *, setting=0)",
              "Game.rests": "(self, *, setting=0)", "Game.wavering": "(self, player)", "Game.is_crossing": "(self)",
              "Game.climb": "(self, *, setting=0)", "Game.descend": "(self, *, setting=0)",
              "Game.by_turns": "(self, players, *, setting=0)"},
    "leading": {"leads": "(first, second, *, setting=0, behind=0)", "chain": "(*tables)",
                "lead_witness": "(first, second, *, setting=0, behind=0)",
                "lead_fall": "(first, second, *, setting=0, behind=0)"},
    "hidden": {"Hidden": "(top, rival_top)", "Hidden.tell": "(self, fact)", "Hidden.told": "(self)",
               "Hidden.undo": "(self)", "Hidden.low": "(self)", "Hidden.high": "(self)", "Hidden.many": "(self)",
               "Hidden.says": "(self, level, value)", "Hidden.best": "(self, *levels)",
               "Hidden.rests": "(self, rival)", "Hidden.least_rest": "(self, rival)",
               "Hidden.greatest_rest": "(self, rival)"},
    "panel": {"Panel": "(table)", "Panel.change": "(self, option, setting, worth)",
              "Panel.charge": "(self, knob, level, price)", "Panel.allow": "(self, options)",
              "Panel.swap": "(self, first, second)", "Panel.undo": "(self)", "Panel.table": "(self)",
              "Panel.region": "(self)", "Panel.best": "(self)", "Panel.falls": "(self)", "Panel.held": "(self)",
              "Panel.supposed": "(self, deeds)", "Panel.changed": "(self, steps)"},
}


def files():
    """The files of the package with their texts."""
    return [(path, path.read_text(encoding="utf-8")) for path in sorted(FOLDER.glob("*.py"))]


def is_call_of(node, *names):
    """Whether this is a call of one of some functions by its bare name."""
    return isinstance(node, ast.Call) and isinstance(node.func, ast.Name) and node.func.id in names


def is_written_text(node):
    return isinstance(node, ast.Constant) and isinstance(node.value, str)


def is_join(node):
    """Whether this is the join of a written text."""
    return (isinstance(node, ast.Call) and isinstance(node.func, ast.Attribute) and node.func.attr == "join"
            and is_written_text(node.func.value))


def is_text(node):
    """Whether `__str__` and `__repr__` may return this."""
    return is_written_text(node) or isinstance(node, ast.JoinedStr) or is_call_of(node, "str", "repr") or is_join(node)


def is_length(node):
    """Whether `__len__` may return this."""
    return is_call_of(node, "len") or (isinstance(node, ast.Constant) and isinstance(node.value, int))


FORMS = {"__str__": is_text, "__repr__": is_text, "__len__": is_length}


def rows_out_of_form(text):
    """The rows of a file in which a method of FORMS returns something else, or does not end with a return."""
    told = []
    for node in ast.walk(ast.parse(text)):
        if isinstance(node, ast.FunctionDef) and node.name in FORMS:
            if not isinstance(node.body[-1], ast.Return):
                told.append(node.lineno)
            told += [inner.lineno for inner in ast.walk(node)
                     if isinstance(inner, ast.Return) and not FORMS[node.name](inner.value)]
    return told


class TestInterface(unittest.TestCase):

    def test_functions_are_defined_where_they_are_listed(self):
        for name, functions in FUNCTIONS.items():
            module = importlib.import_module("risingknobs." + name)
            for function in functions:
                self.assertEqual(getattr(module, function).__module__, module.__name__, function)

    def test_classes_define_the_methods_that_are_listed(self):
        for name, classes in CLASSES.items():
            module = importlib.import_module("risingknobs." + name)
            for kind, methods in classes.items():
                self.assertEqual(getattr(module, kind).__module__, module.__name__, kind)
                for method in methods:
                    self.assertIn(method, vars(getattr(module, kind)), kind)

    def test_arguments(self):
        for name, signatures in SIGNATURES.items():
            module = importlib.import_module("risingknobs." + name)
            for words, signature in signatures.items():
                told = module
                for word in words.split("."):
                    told = getattr(told, word)
                self.assertEqual(str(inspect.signature(told)), signature, words)


class TestLanguage(unittest.TestCase):

    def test_the_folder_holds_files_of_python_alone(self):
        others = [path.name for path in FOLDER.iterdir() if path.suffix != ".py" and path.name != "__pycache__"]
        self.assertEqual(others, [])

    def test_characters_and_sizes(self):
        for path, text in files():
            lines = text.split("\n")
            self.assertLessEqual(len(lines), 399, path.name)
            for line in lines:
                self.assertTrue(all(" " <= letter <= "~" for letter in line), path.name)
                self.assertLessEqual(len(line), 120, path.name)
            for node in ast.walk(ast.parse(text)):
                if isinstance(node, ast.FunctionDef):
                    self.assertLessEqual(node.end_lineno - node.lineno + 1, 40, node.name)

    def test_imports_come_from_the_package(self):
        for path, text in files():
            for node in ast.walk(ast.parse(text)):
                self.assertNotIsInstance(node, ast.Import, path.name)
                if isinstance(node, ast.ImportFrom):
                    self.assertTrue(node.module.startswith("risingknobs."), path.name)

    def test_what_str_repr_and_len_return(self):
        for path, text in files():
            self.assertEqual(rows_out_of_form(text), [], path.name)

    def test_other_returns_are_found(self):
        right = ["'a'", "f'{self.n}'", "str(self.n)", "repr(self.n)", "' '.join(self.words)"]
        wrong = ["text_of(self.n)", "self.text()", "self.name", "self.blank.join(self.words)", "'a' + 'b'", ""]
        for name, good, bad in (("__str__", right, wrong), ("__repr__", right, wrong),
                                ("__len__", ["len(self.n)", "3"], ["self.n", "count(self.n)", "len(self.n) + 1"])):
            for form in good:
                self.assertEqual(rows_out_of_form(f"def {name}(self):\n    return {form}\n"), [], form)
            for form in bad:
                self.assertEqual(rows_out_of_form(f"def {name}(self):\n    return {form}\n"), [2], form)
        self.assertEqual(rows_out_of_form("def __str__(self):\n    if self.n:\n        return 'a'\n"), [1])


if __name__ == "__main__":
    unittest.main()
