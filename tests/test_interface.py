"""The interface: which names stand in which file, with which parameters; and the form of the files."""

import ast
import builtins
import inspect
import pathlib
import unittest

from nevercrossed import (
    books, cells, consoles, counting, drawing, errors, fewest, figures, plans, prices, regions, rounds, spreads, texts,
    ways, wishes, words,
)

PACKAGE = pathlib.Path(errors.__file__).parent

FUNCTIONS = {
    words: {
        "is_integer": ["value"], "is_point": ["value"], "is_direction": ["value"], "is_edge": ["value"],
        "beside": ["point", "direction"], "direction_between": ["point", "other"], "edge_between": ["point", "other"],
        "opposite": ["direction"],
    },
    texts: {"picture": ["figure"], "read_picture": ["text"], "walk_text": ["walk"], "read_walk": ["text"]},
    fewest: {
        "pieces": ["figure"], "fewest": ["figure"], "best_plan": ["figure"], "division_fault": ["figure", "walks"],
    },
    cells: {"border": ["cells"], "dark_cells": ["figure"]},
    rounds: {
        "is_round": ["figure", "thing"], "round_numbers": ["plan"], "why_not": ["plan"],
        "shows_not": ["plan", "thing"], "mended": ["plan"],
    },
    counting: {
        "count": ["figure", "color"], "nth_plan": ["figure", "n"], "number_of": ["plan"],
        "counts_by_lines": ["figure"],
    },
    ways: {"way": ["plan", "other"], "line_numbers": ["plan", "points"]},
    wishes: {
        "wished": ["figure", "wishes"], "shows_none": ["figure", "wishes", "thing"], "fulfils": ["plan", "wishes"],
    },
    drawing: {"drawn": ["plan"], "read_drawn": ["paths"]},
    prices: {
        "price_of": ["plan", "prices"], "cheapest": ["figure", "prices"], "cheaper": ["plan", "prices"],
        "why_cheapest": ["plan", "prices"], "shows_cheapest": ["plan", "prices", "thing"],
    },
    spreads: {
        "spread": ["figure", "k", "color"], "spread_bound": ["figure", "points", "k", "color"],
        "spread_paper": ["figure", "k", "color"], "opposite": ["figure"], "fixed_words": ["figure"],
    },
}
# The operators are listed by their signs; here they have the names of their methods.
METHODS = {
    figures.Figure: {
        "__init__": ["edges"], "points": [], "odd_points": [], "directions": ["point"], "__len__": [],
        "__eq__": ["other"], "__contains__": ["edge"], "__or__": ["other"], "__and__": ["other"],
        "__sub__": ["other"], "__xor__": ["other"], "shifted": ["dx", "dy"], "turned": [], "mirrored": [],
    },
    plans.Plan: {
        "__init__": ["figure", "turns"], "__getitem__": ["point"], "__contains__": ["point"], "__len__": [],
        "__eq__": ["other"], "turns": [], "partner": ["point", "direction"], "turned": ["points"],
        "ended": ["point", "direction"], "lines": [],
    },
    regions.Regions: {
        "__init__": ["figure"], "find": ["cell"], "crossings": [], "between": ["color", "point"],
        "joining": ["point"],
    },
    books.Book: {
        "__init__": [], "wishes": [], "put": ["walk"], "rub": ["walk"], "wish": ["point", "word"], "undo": [],
        "together": ["deeds"], "answer": [],
    },
    consoles.Console: {"__init__": ["book"], "__call__": ["line"]},
    errors.NevercrossedError: {"__init__": ["value"]},
}
# Their last parameter is passed by name only.
WITH_A_COLOR = (counting.count, spreads.spread, spreads.spread_bound, spreads.spread_paper)
BARRED_WORDS = (
    "type typing typing_extensions enum Enum IntEnum StrEnum Flag IntFlag Generic Protocol ABC ABCMeta namedtuple "
    "NamedTuple TypedDict TYPE_CHECKING abstractmethod register mro elements open input law".split()
)
BUILTINS = (
    "len range enumerate zip min max sum abs sorted reversed int str bool list tuple dict set isinstance ord repr any "
    "all divmod ValueError TypeError KeyError IndexError iter next".split()
)


def package_files():
    return sorted(PACKAGE.glob("*.py"))


def tree_of(path):
    return ast.parse(path.read_text(encoding="utf-8"))


def defined_in(path):
    """Return the functions, classes and values that a file defines itself."""
    names = []
    for row in tree_of(path).body:
        if isinstance(row, (ast.FunctionDef, ast.ClassDef)):
            names.append(row.name)
        elif isinstance(row, ast.Assign):
            names.extend(target.id for target in row.targets)
    return names


class TestInterface(unittest.TestCase):
    def test_functions(self):
        for module, listed in FUNCTIONS.items():
            for name, parameters in listed.items():
                with self.subTest(name):
                    function = getattr(module, name)
                    self.assertIn(name, defined_in(pathlib.Path(module.__file__)))
                    self.assertEqual(function.__module__, module.__name__)
                    self.assertEqual(list(inspect.signature(function).parameters), parameters)

    def test_methods_stand_in_the_class_itself(self):
        for owner, listed in METHODS.items():
            for name, parameters in listed.items():
                with self.subTest(owner=owner.__name__, name=name):
                    self.assertIn(name, vars(owner))
                    found = list(inspect.signature(vars(owner)[name]).parameters)
                    self.assertEqual(found, ["self"] + parameters)

    def test_edges_are_empty_if_not_given(self):
        self.assertEqual(inspect.signature(figures.Figure).parameters["edges"].default, ())

    def test_classes_are_defined_in_their_files(self):
        for owner in METHODS:
            self.assertIn(owner.__name__, defined_in(pathlib.Path(inspect.getmodule(owner).__file__)))

    def test_the_color_is_passed_by_name(self):
        for module, listed in FUNCTIONS.items():
            for name in listed:
                function = getattr(module, name)
                kinds = {inspect.Parameter.POSITIONAL_OR_KEYWORD: [], inspect.Parameter.KEYWORD_ONLY: []}
                for parameter in inspect.signature(function).parameters.values():
                    kinds[parameter.kind].append((parameter.name, parameter.default))
                expected = [("color", "dark")] if function in WITH_A_COLOR else []
                self.assertEqual(kinds[inspect.Parameter.KEYWORD_ONLY], expected)
                for _, default in kinds[inspect.Parameter.POSITIONAL_OR_KEYWORD]:
                    self.assertIs(default, inspect.Parameter.empty)

    def test_attributes_are_set_when_the_object_is_created(self):
        square = cells.border([(0, 0)])
        self.assertIn("figure", vars(plans.Plan(square, {})))
        self.assertLessEqual({"dark", "light"}, set(vars(regions.Regions(square))))
        self.assertIn("edges", vars(figures.Figure()))
        self.assertLessEqual({"figure", "changes"}, set(vars(books.Book())))
        self.assertIn("value", vars(errors.InvalidPoint(None)))


class TestFiles(unittest.TestCase):
    def test_the_folder_contains_only_plain_files(self):
        found = [path.name for path in PACKAGE.iterdir() if path.name != "__pycache__"]
        self.assertIn("__init__.py", found)
        for name in found:
            self.assertRegex(name, r"^(__init__|[a-z][a-z0-9_]*)\.py$")

    def test_sizes_and_characters(self):
        for path in package_files():
            with self.subTest(path.name):
                text = path.read_text(encoding="utf-8")
                self.assertRegex(text, r"\A[ -~\n]*\Z")
                self.assertLessEqual(len(text.splitlines()), 399)
                self.assertLessEqual(max([len(row) for row in text.splitlines()]), 120)
                for node in ast.walk(tree_of(path)):
                    if isinstance(node, ast.FunctionDef):
                        self.assertLessEqual(node.end_lineno - node.lineno + 1, 40, node.name)

    def test_imports_name_the_defining_file(self):
        for path in package_files():
            for node in ast.walk(tree_of(path)):
                self.assertNotIsInstance(node, ast.Import)
                if isinstance(node, ast.ImportFrom):
                    self.assertRegex(node.module, r"^nevercrossed\.[a-z]+$")
                    source = PACKAGE / (node.module.split(".")[1] + ".py")
                    for alias in node.names:
                        self.assertIn(alias.name, defined_in(source))

    def test_no_imports_in_a_circle(self):
        wanted = {}
        for path in package_files():
            nodes = [node for node in ast.walk(tree_of(path)) if isinstance(node, ast.ImportFrom)]
            wanted[path.stem] = {node.module.split(".")[1] for node in nodes}
        self.assertEqual(wanted["__init__"], set())
        while wanted:
            free = [name for name, others in wanted.items() if not others & set(wanted)]
            self.assertNotEqual(free, [], wanted)
            for name in free:
                del wanted[name]

    def test_barred_words_and_builtins(self):
        for path in package_files():
            tree = tree_of(path)
            own = set(defined_in(path))
            for node in ast.walk(tree):
                # Python sets builtins._ when it shows a value.
                if isinstance(node, ast.Name) and node.id != "_" and hasattr(builtins, node.id):
                    self.assertIn(node.id, BUILTINS)
                if isinstance(node, (ast.FunctionDef, ast.ClassDef)):
                    self.assertNotIn(node.name, BARRED_WORDS)
                if isinstance(node, (ast.Name, ast.arg)):
                    self.assertNotIn(node.id if isinstance(node, ast.Name) else node.arg, BARRED_WORDS)
                if isinstance(node, ast.Attribute):
                    self.assertNotIn(node.attr, BARRED_WORDS)
                if isinstance(node, ast.arg):
                    self.assertNotIn(node.arg, own)
            names = defined_in(path)
            self.assertEqual(len(names), len(set(names)), path.name)

    def test_statements_and_expressions(self):
        barred = (
            ast.Global, ast.AsyncFunctionDef, ast.Await, ast.AsyncFor, ast.AsyncWith, ast.Div, ast.MatMult, ast.TryStar,
        )
        for path in package_files():
            for node in ast.walk(tree_of(path)):
                with self.subTest(path.name, line=getattr(node, "lineno", None)):
                    self.assertNotIsInstance(node, barred)
                    if isinstance(node, ast.Constant):
                        self.assertNotIsInstance(node.value, (float, complex))
                        self.assertNotIn("%", str(node.value))

    def test_lists_in_the_place_of_generator_expressions(self):
        # Figure has an own ==, so any, all, sorted and the like take lists.
        for path in package_files():
            for node in ast.walk(tree_of(path)):
                self.assertNotIsInstance(node, ast.GeneratorExp, f"{path.name}:{getattr(node, 'lineno', None)}")

    def test_no_name_means_two_things(self):
        for path in package_files():
            tree = tree_of(path)
            taken = {name for name in dir(builtins) if name != "_"}
            taken.update(alias.name for node in tree.body if isinstance(node, ast.ImportFrom) for alias in node.names)
            taken.update(node.name for node in tree.body if isinstance(node, ast.ClassDef))
            for node in ast.walk(tree):
                if isinstance(node, ast.arg):
                    self.assertNotIn(node.arg, taken, path.name)
                if isinstance(node, ast.Name) and isinstance(node.ctx, ast.Store):
                    self.assertNotIn(node.id, taken, path.name)

    def test_sets_views_and_the_like_are_used_on_the_spot(self):
        iterating = ("list", "tuple", "dict", "sorted", "sum", "any", "all", "enumerate", "zip")
        for path in package_files():
            tree = tree_of(path)
            around = {inner: node for node in ast.walk(tree) for inner in ast.iter_child_nodes(node)}
            for node in ast.walk(tree):
                name, method = self.called(node)
                if name is None and method is None:
                    continue
                outer = around[node]
                place = f"{path.name}:{node.lineno}"
                self.assertNotIn(name, ("reversed", "iter", "next", "map", "frozenset", "dict"), place)
                self.assertNotIn(method, ("sort", "add", "discard"), place)
                if name == "set":
                    self.assertIn(self.called(outer)[0], ("len", "sorted"), place)
                if name in ("range", "zip", "enumerate") or method in ("items", "values", "keys"):
                    is_iterated = isinstance(outer, (ast.For, ast.comprehension)) and outer.iter is node
                    self.assertTrue(is_iterated or self.called(outer)[0] in iterating, place)

    def called(self, node):
        """Return the name of the function and that of the method which are called by a node, or None."""
        if not isinstance(node, ast.Call):
            return None, None
        if isinstance(node.func, ast.Attribute):
            return None, node.func.attr
        return node.func.id, None

    def is_operator(self, name):
        return name[:2] == "__" and name not in ("__init__", "__call__")

    def test_what_operators_run_changes_nothing(self):
        # The functions and classes that the operators call, and those that these call: they assign no attribute but of
        # a new object, and call no method that modifies something.
        functions, classes, waiting = {}, {}, []
        for path in package_files():
            for node in tree_of(path).body:
                if isinstance(node, ast.FunctionDef):
                    functions[node.name] = node
                if isinstance(node, ast.ClassDef):
                    methods = {part.name: part for part in node.body if isinstance(part, ast.FunctionDef)}
                    classes[node.name] = methods.get("__init__")
                    waiting += [part for name, part in methods.items() if self.is_operator(name)]
        passed = []
        while waiting:
            node = waiting.pop()
            passed.append(node)
            for part in ast.walk(node):
                self.assertNotIsInstance(part, (ast.AugAssign, ast.Delete), node.name)
                if isinstance(part, ast.Attribute) and isinstance(part.ctx, ast.Store):
                    self.assertEqual(node.name, "__init__")
                name, method = self.called(part)
                self.assertIn(method, (None, "items", "values", "get"), node.name)
                found = functions.get(name) or classes.get(name)
                if found is not None and found not in passed:
                    waiting.append(found)
        self.assertGreater(len(passed), 15)
