"""The interface, and what the language of the package allows: names, sizes, characters, imports."""

import ast
import importlib
import inspect
import pathlib
import unittest

PACKAGE = pathlib.Path(__file__).resolve().parent.parent / "seenabout"
LIBRARY = {"math": ("gcd", "lcm", "isqrt", "comb", "perm", "factorial"),
           "heapq": ("heappush", "heappop", "heapify", "heapreplace", "heappushpop"),
           "itertools": ("product", "combinations", "permutations")}

# For each class: the parameters of its creation, and of its methods.
CLASSES = {
    ("ratios", "Ratio"): ("number, under=1", {"of": "text", "divided": "self, other"}),
    ("points", "Point"): ("x, y", {"of": "text", "towards": "self, other, share"}),
    ("points", "Line"): ("one, other", {"height": "self, point", "share": "self, point"}),
    ("charts", "Chart"): ("text", {"line": "self, one, other", "without": "self, name"}),
    ("lands", "Land"): ("corners", {}),
}
SIGNS = {("charts", "Chart"): ("getitem", "len", "contains", "add", "eq"), ("lands", "Land"): ("contains", "eq"),
         ("points", "Point"): ("add", "sub", "eq"), ("points", "Line"): ("and", "eq")}
FUNCTIONS = {
    "sights": {"sides": "chart, point", "about": "chart, point, *, among=None"},
    "cells": {"cells": "chart", "place_of": "chart, sides", "shows_place_of": "chart, sides, value", "next_to": "chart, cell",
              "pieces": "chart, some"},
    "seeing": {"rounds": "chart, *, land=None, among=None", "seen_from": "chart, asked, *, land=None, among=None",
               "shows_seen_from": "chart, asked, value, *, land=None, among=None", "where": "chart, asked, *, among=None"},
    "ways": {"crossed": "chart, start, goal", "seen_on": "chart, start, goal", "fewest": "chart, start, goal",
             "shows_fewest": "chart, start, goal, value"},
    "logs": {"began": "chart, log", "now": "chart, log", "coming": "chart, log", "known": "chart, log"},
}
TEXT = "mark a 0 0\nmark b 4 0\nmark c 0 4"
ATTRIBUTES = {
    ("ratios", "Ratio"): ((1, 2), ("number", "under", "text")),
    ("points", "Point"): ((1, 2), ("x", "y", "text")),
    ("charts", "Chart"): ((TEXT,), ("text", "names", "pairs")),
    ("lands", "Land"): ((((0, 0), (4, 0), (0, 4)),), ("corners", "edges")),
}


def found(module, name):
    return getattr(importlib.import_module("seenabout." + module), name)


def parameters(function):
    return str(inspect.signature(function)).strip("()")


def sources():
    return {path.name: path.read_text(encoding="utf-8") for path in sorted(PACKAGE.glob("*.py"))}


def nodes(source, *kinds):
    return [node for node in ast.walk(ast.parse(source)) if isinstance(node, kinds)]


class Interface(unittest.TestCase):

    def test_classes_stand_in_their_files(self):
        for (module, name), (wanted, methods) in CLASSES.items():
            kind = found(module, name)
            self.assertEqual((kind.__name__, kind.__module__), (name, "seenabout." + module))
            self.assertEqual(parameters(kind), wanted)
            for method, its_parameters in methods.items():
                self.assertIn(method, vars(kind))
                self.assertEqual(parameters(getattr(kind, method)), its_parameters)

    def test_signs_are_defined_in_their_classes(self):
        for (module, name), signs in SIGNS.items():
            for sign in signs:
                self.assertIn(f"__{sign}__", vars(found(module, name)))

    def test_functions_stand_in_their_files(self):
        for module, functions in FUNCTIONS.items():
            for name, its_parameters in functions.items():
                function = found(module, name)
                self.assertTrue(inspect.isfunction(function))
                self.assertEqual((function.__name__, function.__module__), (name, "seenabout." + module))
                self.assertEqual(parameters(function), its_parameters)

    def test_what_is_to_be_static_is_static(self):
        for module, name in [("ratios", "Ratio"), ("points", "Point")]:
            self.assertIsInstance(vars(found(module, name))["of"], staticmethod)

    def test_attributes_are_there_from_the_beginning(self):
        for (module, name), (arguments, attributes) in ATTRIBUTES.items():
            made = found(module, name)(*arguments)
            for attribute in attributes:
                self.assertTrue(hasattr(made, attribute))


class Language(unittest.TestCase):

    def test_only_python_files_in_the_folder(self):
        others = [path.name for path in PACKAGE.iterdir() if path.suffix != ".py"]
        self.assertEqual([name for name in others if name != "__pycache__"], [])

    def test_sizes_and_characters(self):
        for name, source in sources().items():
            lines = source.split("\n")
            self.assertLessEqual(len(lines), 400, name)
            self.assertEqual([line for line in lines if len(line) > 120], [], name)
            self.assertEqual([c for c in source if not (" " <= c <= "~" or c == "\n")], [], name)
            for function in nodes(source, ast.FunctionDef):
                self.assertLessEqual(function.end_lineno - function.lineno + 1, 40, function.name)

    def test_values(self):
        for name, source in sources().items():
            for node in nodes(source, ast.Constant):
                self.assertNotIsInstance(node.value, (float, complex), name)
                self.assertFalse(isinstance(node.value, str) and "%" in node.value, name)
            self.assertEqual(nodes(source, ast.Div, ast.Global, ast.AsyncFunctionDef), [], name)

    def test_imports(self):
        for name, source in sources().items():
            self.assertEqual(nodes(source, ast.Import), [], name)
            for node in nodes(source, ast.ImportFrom):
                self.assertEqual(node.level, 0)
                for imported in node.names:
                    if node.module in LIBRARY:
                        self.assertIn(imported.name, LIBRARY[node.module])
                    else:
                        self.assertEqual(getattr(found(node.module.removeprefix("seenabout."), imported.name),
                                                 "__module__"), node.module)


if __name__ == "__main__":
    unittest.main()
