"""The interface, and what the language of the package allows: names, sizes, characters, imports."""

import ast
import builtins
import importlib
import inspect
import pathlib
import unittest

from seenabout.charts import Chart
from seenabout.points import Point
from seenabout.scripts import Script

PACKAGE = pathlib.Path(__file__).resolve().parent.parent / "seenabout"
LIBRARY = {"math": ("gcd", "lcm", "isqrt", "comb", "perm", "factorial"),
           "heapq": ("heappush", "heappop", "heapify", "heapreplace", "heappushpop"),
           "itertools": ("product", "combinations", "permutations")}

# Names of Python that no function or method of the package has.
LISTED = ("len", "range", "enumerate", "zip", "min", "max", "sum", "abs", "sorted", "reversed", "int", "str", "bool", "bytes", "list", "tuple",
          "dict", "set", "frozenset", "isinstance", "ord", "chr", "repr", "any", "all", "divmod", "open", "input", "register", "mro", "elements", "law")

ERRORS = ("BadRatio BadText BadPoint BadNumber Off BadChart NoMark BadLine Needed AtMark BadNames BadSides NoCell BadCells BadLand BadRound OverMark OnLine BadLog "
          "BadScript NoLap BadAsk Unlike BadOffers BadAsks Lost NothingToUndo NothingToRedo NoTrial BadJournal BadSay").split()

# For each class: the parameters of its creation, and of its methods.
CLASSES = {
    ("ratios", "Ratio"): ("number, under=1", {"of": "text", "divided": "self, other"}),
    ("points", "Point"): ("x, y", {"of": "text", "towards": "self, other, share"}),
    ("points", "Line"): ("one, other", {"height": "self, point", "share": "self, point"}),
    ("charts", "Chart"): ("text", {"line": "self, one, other", "without": "self, name"}),
    ("lands", "Land"): ("corners", {}),
    ("scripts", "Script"): ("text", {}),
    ("laps", "Lap"): ("chart, script", {"led": "self, share, many=1", "starts": "self, many=1"}),
    ("walkers", "Walker"): ("chart, point", {"go": "self, point", "step": "self, line", "undo": "self", "redo": "self", "trial": "self", "keep": "self",
                                             "tried": "self, look, *, keep=False", "copy": "self"}),
    ("desk", "Desk"): ("text", {"say": "self, line"}),
}
SIGNS = {("charts", "Chart"): ("getitem", "len", "contains", "add", "eq"), ("lands", "Land"): ("contains", "eq"),
         ("points", "Point"): ("add", "sub", "eq"), ("points", "Line"): ("and", "eq"), ("scripts", "Script"): ("len", "eq"),
         ("walkers", "Walker"): ("len", "contains", "eq"), ("ratios", "Ratio"): ("add", "radd", "sub", "rsub", "mul", "rmul", "neg", "abs", "lt", "le", "gt", "ge", "eq", "repr")}
FUNCTIONS = {
    "sights": {"sides": "chart, point", "about": "chart, point, *, among=None"},
    "cells": {"cells": "chart", "place_of": "chart, sides", "shows_place_of": "chart, sides, value", "next_to": "chart, cell",
              "pieces": "chart, some"},
    "seeing": {"rounds": "chart, *, land=None, among=None", "seen_from": "chart, asked, *, land=None, among=None",
               "shows_seen_from": "chart, asked, value, *, land=None, among=None", "where": "chart, asked, *, among=None"},
    "ways": {"crossed": "chart, start, goal", "seen_on": "chart, start, goal", "fewest": "chart, start, goal",
             "shows_fewest": "chart, start, goal, value"},
    "scripts": {"walked": "chart, script, point", "ends": "chart, script, land", "failing": "chart, script, land",
                "leads": "chart, script, land", "shows_leads": "chart, script, land, value"},
    "looks": {"mixed": "chart, ask, *, land=None, among=None", "shows_mixed": "chart, ask, value, *, land=None, among=None",
              "fewest_marks": "chart, ask, *, land=None"},
    "comparing": {"apart": "one, other, *, land=None"},
    "choosing": {"cheapest": "chart, offers, asks, *, land=None"},
    "journals": {"journal": "walker", "read_journal": "text"},
    "logs": {"began": "chart, log", "now": "chart, log", "coming": "chart, log", "known": "chart, log"},
}
TEXT = "mark a 0 0\nmark b 4 0\nmark c 0 4"
DIRECTIONS = "towards d between a c\ntowards e between a b"
ATTRIBUTES = {
    ("ratios", "Ratio"): ((1, 2), ("number", "under", "text")),
    ("points", "Point"): ((1, 2), ("x", "y", "text")),
    ("charts", "Chart"): ((TEXT,), ("text", "names", "pairs")),
    ("lands", "Land"): ((((0, 0), (4, 0), (0, 4)),), ("corners", "edges")),
    ("scripts", "Script"): ((DIRECTIONS,), ("text", "steps")),
    ("laps", "Lap"): ((Chart(TEXT + "\nmark d 6 6\nmark e 1 -3"), Script(DIRECTIONS)), ("pair", "table", "turns", "fixed")),
    ("points", "Line"): ((Point(0, 0), Point(1, 2)), ("one", "other")),
    ("walkers", "Walker"): ((Chart(TEXT), Point(1, 1)), ("chart", "first", "point", "done", "log")),
    ("desk", "Desk"): ((TEXT + "\nat 1 1",), ("walker",)),
}


def found(module, name):
    return getattr(importlib.import_module("seenabout." + module), name)


def parameters(function):
    return str(inspect.signature(function)).strip("()")


def sources():
    return {path.name: path.read_text(encoding="utf-8") for path in sorted(PACKAGE.glob("*.py"))}


def bound_in(tree):
    """The functions, classes and values that a file defines, by name."""
    found = [node.name for node in tree.body if isinstance(node, (ast.FunctionDef, ast.ClassDef))]
    return found + [target.id for node in tree.body if isinstance(node, ast.Assign) for target in node.targets]


def nodes(source, *kinds):
    return [node for node in ast.walk(ast.parse(source)) if isinstance(node, kinds)]


class Interface(unittest.TestCase):

    def test_classes_stand_in_their_files(self):
        for (module, name), (wanted, methods) in CLASSES.items():
            kind = found(module, name)
            self.assertEqual((kind.__name__, kind.__module__), (name, "seenabout." + module))
            self.assertEqual(parameters(kind), wanted)
            for method, its_parameters in methods.items():
                self.assertIn(method, vars(kind))
                self.assertEqual(parameters(getattr(kind, method)), its_parameters)

    def test_signs_are_defined_in_their_classes(self):
        for (module, name), signs in SIGNS.items():
            for sign in signs:
                self.assertIn(f"__{sign}__", vars(found(module, name)))

    def test_functions_stand_in_their_files(self):
        for module, functions in FUNCTIONS.items():
            for name, its_parameters in functions.items():
                function = found(module, name)
                self.assertTrue(inspect.isfunction(function))
                self.assertEqual((function.__name__, function.__module__), (name, "seenabout." + module))
                self.assertEqual(parameters(function), its_parameters)

    def test_errors_stand_below_the_one(self):
        above = found("errors", "AboutError")
        self.assertEqual(above.__bases__, (ValueError,))
        for name in ERRORS:
            self.assertEqual((found("errors", name).__bases__, found("errors", name).__module__), ((above,), "seenabout.errors"))

    def test_each_sign_of_the_document_is_taken(self):
        # Nothing is taken over from a base class: there are none but for errors.
        for name, source in sources().items():
            for node in nodes(source, ast.ClassDef):
                if name != "errors.py":
                    self.assertEqual(node.bases, [], node.name)

    def test_what_is_to_be_static_is_static(self):
        for module, name in [("ratios", "Ratio"), ("points", "Point")]:
            self.assertIsInstance(vars(found(module, name))["of"], staticmethod)

    def test_attributes_are_there_from_the_beginning(self):
        for (module, name), (arguments, attributes) in ATTRIBUTES.items():
            made = found(module, name)(*arguments)
            for attribute in attributes:
                self.assertTrue(hasattr(made, attribute))


class Language(unittest.TestCase):

    def test_only_python_files_in_the_folder(self):
        others = [path.name for path in PACKAGE.iterdir() if path.suffix != ".py"]
        self.assertEqual([name for name in others if name != "__pycache__"], [])

    def test_sizes_and_characters(self):
        for name, source in sources().items():
            lines = source.split("\n")
            self.assertLessEqual(len(lines), 400, name)
            self.assertEqual([line for line in lines if len(line) > 120], [], name)
            self.assertEqual([c for c in source if not (" " <= c <= "~" or c == "\n")], [], name)
            for function in nodes(source, ast.FunctionDef):
                self.assertLessEqual(function.end_lineno - function.lineno + 1, 40, function.name)

    def test_values(self):
        for name, source in sources().items():
            for node in nodes(source, ast.Constant):
                self.assertNotIsInstance(node.value, (float, complex), name)
                self.assertFalse(isinstance(node.value, str) and "%" in node.value, name)
            self.assertEqual(nodes(source, ast.Div, ast.Global, ast.AsyncFunctionDef), [], name)

    def test_imports(self):
        for name, source in sources().items():
            self.assertEqual(nodes(source, ast.Import), [], name)
            for node in nodes(source, ast.ImportFrom):
                self.assertEqual(node.level, 0)
                for imported in node.names:
                    self.assertIsNone(imported.asname)
                    if node.module in LIBRARY:
                        self.assertIn(imported.name, LIBRARY[node.module])
                    else:
                        own = sources()[node.module.removeprefix("seenabout.") + ".py"]
                        self.assertIn(imported.name, bound_in(ast.parse(own)))

    def test_no_two_files_import_from_each_other(self):
        ahead = {}
        for name, source in sources().items():
            ahead[name.removesuffix(".py")] = [node.module.removeprefix("seenabout.") for node in nodes(source, ast.ImportFrom)
                                               if node.module not in LIBRARY]
        done = []
        while len(done) < len(ahead):
            ready = [name for name in ahead if name not in done and all(other in done for other in ahead[name])]
            self.assertNotEqual(ready, [], "files import from each other")
            done.extend(ready)

    def test_all_that_is_imported_and_defined_is_used(self):
        public = {name for functions in FUNCTIONS.values() for name in functions} | {name for _, name in CLASSES}
        everywhere = [word.id for source in sources().values() for word in nodes(source, ast.Name)]
        for name, source in sources().items():
            used = {word.id for word in nodes(source, ast.Name)}
            for node in nodes(source, ast.ImportFrom):
                self.assertEqual([one.name for one in node.names if one.name not in used], [], name)
            own = [one for one in bound_in(ast.parse(source)) if one not in public and name != "errors.py"]
            self.assertEqual([one for one in own if one not in everywhere], [], name)

    def test_names(self):
        for name, source in sources().items():
            tree = ast.parse(source)
            taken = {node.name for node in nodes(source, ast.ClassDef)}
            taken |= {one.name for node in nodes(source, ast.ImportFrom) for one in node.names}
            for node in nodes(source, ast.ClassDef):
                self.assertTrue(node.name[0].isalpha(), (name, node.name))
            inner = [node.arg for node in nodes(source, ast.arg)]
            inner += [node.id for node in nodes(source, ast.Name) if isinstance(node.ctx, ast.Store)]
            for word in inner:
                self.assertFalse(word in taken or (word != "_" and hasattr(builtins, word)), (name, word))
            for word in bound_in(tree):
                self.assertFalse(hasattr(builtins, word), (name, word))
            for node in nodes(source, ast.Name):
                self.assertFalse(node.id == "_" and isinstance(node.ctx, ast.Load), name)
            for node in nodes(source, ast.FunctionDef):
                self.assertFalse(node.name in LISTED, (name, node.name))

    def test_calls_and_statements(self):
        for name, source in sources().items():
            self.assertEqual(nodes(source, ast.GeneratorExp, ast.Lambda, ast.Set, ast.SetComp, ast.Yield, ast.Assert, ast.Delete, ast.Nonlocal), [], name)
            for node in nodes(source, ast.Call):
                if isinstance(node.func, ast.Name) and node.func.id in ("sorted", "min", "max"):
                    self.assertEqual([(one.arg, one.value.id) for one in node.keywords if one.value.id in ("int", "str", "len")][:1] != [], True, name)
                if isinstance(node.func, ast.Attribute):
                    self.assertNotIn(node.func.attr, ("sort", "add", "discard", "format"), name)
            for node in nodes(source, ast.Compare):
                for sign, right in zip(node.ops, node.comparators):
                    if isinstance(sign, (ast.Is, ast.IsNot)):
                        self.assertTrue(isinstance(right, ast.Constant) and right.value in (None, True, False), name)
            for node in nodes(source, ast.AugAssign):
                self.assertTrue(isinstance(node.value, ast.Constant) and type(node.value.value) is int, name)
            for node in nodes(source, ast.FunctionDef):
                for default in node.args.defaults + [one for one in node.args.kw_defaults if one is not None]:
                    self.assertIsInstance(default, ast.Constant, name)

    def test_properties_share_no_names(self):
        methods, properties, stored = set(), set(), set()
        for source in sources().values():
            for kind in nodes(source, ast.ClassDef):
                for node in kind.body:
                    if isinstance(node, ast.FunctionDef):
                        is_property = any(isinstance(one, ast.Name) and one.id == "property" for one in node.decorator_list)
                        (properties if is_property else methods).add(node.name)
            stored |= {node.attr for node in nodes(source, ast.Attribute) if isinstance(node.ctx, ast.Store)}
        self.assertEqual(properties & (methods | stored), set())
        self.assertEqual(methods & stored, set())
        self.assertEqual(stored & {"items", "keys", "values", "pop", "update", "append", "clear", "extend", "insert", "remove", "reverse", "sort",
                                   "args", "encode", "decode", "format"}, set())


if __name__ == "__main__":
    unittest.main()
