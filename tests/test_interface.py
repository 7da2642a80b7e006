"""The interface: which names stand in which file, with which parameters; and the form of the files."""

import ast
import builtins
import inspect
import pathlib
import unittest

from nevercrossed import errors, figures, words

PACKAGE = pathlib.Path(errors.__file__).parent

FUNCTIONS = {
    words: {
        "is_integer": ["value"], "is_point": ["value"], "is_direction": ["value"], "is_edge": ["value"],
        "beside": ["point", "direction"], "direction_between": ["point", "other"], "edge_between": ["point", "other"],
        "opposite": ["direction"],
    },
}
# The operators are listed by their signs; here they have the names of their methods.
METHODS = {
    figures.Figure: {
        "__init__": ["edges"], "points": [], "odd_points": [], "directions": ["point"], "__len__": [],
        "__eq__": ["other"], "__contains__": ["edge"], "__or__": ["other"], "__and__": ["other"],
        "__sub__": ["other"], "__xor__": ["other"], "shifted": ["dx", "dy"], "turned": [], "mirrored": [],
    },
    errors.NevercrossedError: {"__init__": ["value"]},
}
BARRED_WORDS = (
    "type typing typing_extensions enum Enum IntEnum StrEnum Flag IntFlag Generic Protocol ABC ABCMeta namedtuple "
    "NamedTuple TypedDict TYPE_CHECKING abstractmethod register mro elements open input law".split()
)
BUILTINS = (
    "len range enumerate zip min max sum abs sorted reversed int str bool list tuple dict set isinstance ord repr any "
    "all divmod ValueError TypeError KeyError IndexError iter next".split()
)


def package_files():
    return sorted(PACKAGE.glob("*.py"))


def tree_of(path):
    return ast.parse(path.read_text(encoding="utf-8"))


def defined_in(path):
    """Return the functions, classes and values that a file defines itself."""
    names = []
    for row in tree_of(path).body:
        if isinstance(row, (ast.FunctionDef, ast.ClassDef)):
            names.append(row.name)
        elif isinstance(row, ast.Assign):
            names.extend(target.id for target in row.targets)
    return names


class TestInterface(unittest.TestCase):
    def test_functions(self):
        for module, listed in FUNCTIONS.items():
            for name, parameters in listed.items():
                with self.subTest(name):
                    function = getattr(module, name)
                    self.assertIn(name, defined_in(pathlib.Path(module.__file__)))
                    self.assertEqual(function.__module__, module.__name__)
                    self.assertEqual(list(inspect.signature(function).parameters), parameters)

    def test_methods_stand_in_the_class_itself(self):
        for owner, listed in METHODS.items():
            for name, parameters in listed.items():
                with self.subTest(owner=owner.__name__, name=name):
                    self.assertIn(name, vars(owner))
                    found = list(inspect.signature(vars(owner)[name]).parameters)
                    self.assertEqual(found, ["self"] + parameters)

    def test_edges_are_empty_if_not_given(self):
        self.assertEqual(inspect.signature(figures.Figure).parameters["edges"].default, ())

    def test_attributes_are_set_when_the_object_is_created(self):
        self.assertIn("edges", vars(figures.Figure()))
        self.assertIn("value", vars(errors.InvalidPoint(None)))


class TestFiles(unittest.TestCase):
    def test_the_folder_contains_only_plain_files(self):
        found = [path.name for path in PACKAGE.iterdir() if path.name != "__pycache__"]
        self.assertIn("__init__.py", found)
        for name in found:
            self.assertRegex(name, r"^(__init__|[a-z][a-z0-9_]*)\.py$")

    def test_sizes_and_characters(self):
        for path in package_files():
            with self.subTest(path.name):
                text = path.read_text(encoding="utf-8")
                self.assertRegex(text, r"\A[ -~\n]*\Z")
                self.assertLessEqual(len(text.splitlines()), 399)
                self.assertLessEqual(max([len(row) for row in text.splitlines()]), 120)
                for node in ast.walk(tree_of(path)):
                    if isinstance(node, ast.FunctionDef):
                        self.assertLessEqual(node.end_lineno - node.lineno + 1, 40, node.name)

    def test_imports_name_the_defining_file(self):
        for path in package_files():
            for node in ast.walk(tree_of(path)):
                self.assertNotIsInstance(node, ast.Import)
                if isinstance(node, ast.ImportFrom):
                    self.assertRegex(node.module, r"^nevercrossed\.[a-z]+$")
                    source = PACKAGE / (node.module.split(".")[1] + ".py")
                    for alias in node.names:
                        self.assertIn(alias.name, defined_in(source))

    def test_no_imports_in_a_circle(self):
        wanted = {}
        for path in package_files():
            nodes = [node for node in ast.walk(tree_of(path)) if isinstance(node, ast.ImportFrom)]
            wanted[path.stem] = {node.module.split(".")[1] for node in nodes}
        self.assertEqual(wanted["__init__"], set())
        while wanted:
            free = [name for name, others in wanted.items() if not others & set(wanted)]
            self.assertNotEqual(free, [], wanted)
            for name in free:
                del wanted[name]

    def test_barred_words_and_builtins(self):
        for path in package_files():
            tree = tree_of(path)
            own = set(defined_in(path))
            for node in ast.walk(tree):
                if isinstance(node, ast.Name) and hasattr(builtins, node.id):
                    self.assertIn(node.id, BUILTINS)
                if isinstance(node, (ast.FunctionDef, ast.ClassDef)):
                    self.assertNotIn(node.name, BARRED_WORDS)
                if isinstance(node, (ast.Name, ast.arg)):
                    self.assertNotIn(node.id if isinstance(node, ast.Name) else node.arg, BARRED_WORDS)
                if isinstance(node, ast.Attribute):
                    self.assertNotIn(node.attr, BARRED_WORDS)
                if isinstance(node, ast.arg):
                    self.assertNotIn(node.arg, own)
            names = defined_in(path)
            self.assertEqual(len(names), len(set(names)), path.name)

    def test_statements_and_expressions(self):
        barred = (
            ast.Global, ast.AsyncFunctionDef, ast.Await, ast.AsyncFor, ast.AsyncWith, ast.Div, ast.MatMult, ast.TryStar,
        )
        for path in package_files():
            for node in ast.walk(tree_of(path)):
                with self.subTest(path.name, line=getattr(node, "lineno", None)):
                    self.assertNotIsInstance(node, barred)
                    if isinstance(node, ast.Constant):
                        self.assertNotIsInstance(node.value, (float, complex))
                        self.assertNotIn("%", str(node.value))

    def test_any_and_all_take_lists(self):
        # Figure has an own ==, so a generator expression may not stand there.
        for path in package_files():
            for node in ast.walk(tree_of(path)):
                if isinstance(node, ast.Call) and isinstance(node.func, ast.Name):
                    if node.func.id in ("any", "all", "min", "max", "sum", "sorted"):
                        self.assertNotIsInstance(node.args[0], ast.GeneratorExp, f"{path.name}:{node.lineno}")
