"""What can be read off the package's own text: the part of Python it keeps to,
and so that it has no clock, no chance, no files to reach for."""

import ast
import builtins
import pathlib
import re
import unittest

PACKAGE = pathlib.Path(__file__).resolve().parent.parent / "bridgeties"

PYTHONS_NAMES = set(
    "len range enumerate zip min max sum abs sorted reversed int str bool list tuple dict set frozenset isinstance "
    "ord repr any all divmod Exception ValueError TypeError KeyError IndexError LookupError ZeroDivisionError "
    "ArithmeticError OverflowError RuntimeError NotImplementedError AttributeError StopIteration".split()
)
PYTHONS_METHODS = set(
    "append clear copy count endswith extend find get index insert isalnum isalpha isdigit islower isspace isupper "
    "items join keys ljust lower lstrip partition pop remove replace reverse rfind rjust rpartition rsplit rstrip "
    "setdefault split splitlines startswith strip update upper values zfill bit_length".split()
)
WORDS_NOT_USED = set(
    "type typing typing_extensions enum Enum IntEnum StrEnum Flag IntFlag Generic Protocol ABC ABCMeta namedtuple "
    "NamedTuple TypedDict TYPE_CHECKING abstractmethod".split()
)
PARTS_NOT_USED = ("dataclass", "overload", "contextmanager")
METHODS_WITH_UNDERSCORES = ("__init__", "__eq__", "__repr__", "__str__", "__len__")
NODES = (
    ast.Module, ast.ImportFrom, ast.alias, ast.FunctionDef, ast.arguments, ast.arg, ast.ClassDef, ast.Lambda,
    ast.Assign, ast.AugAssign, ast.If, ast.While, ast.For, ast.Return, ast.Break, ast.Continue, ast.Pass, ast.Raise,
    ast.Try, ast.ExceptHandler, ast.Expr, ast.Constant, ast.Name, ast.List, ast.Tuple, ast.Dict, ast.Set, ast.BinOp,
    ast.UnaryOp, ast.BoolOp, ast.Compare, ast.IfExp, ast.Call, ast.keyword, ast.Attribute, ast.Subscript, ast.Slice,
    ast.ListComp, ast.comprehension, ast.JoinedStr, ast.FormattedValue, ast.expr_context, ast.operator, ast.unaryop,
    ast.boolop, ast.cmpop,
)


def faults_of_text(text):
    faults = []
    rows = text.split("\n")
    if len(rows) > 401:
        faults.append("L10 a long file")
    for number, row in enumerate(rows, start=1):
        if len(row) > 120:
            faults.append(f"L10 {number}: a long row")
        if re.search("[^ -~]", row):
            faults.append(f"L14 {number}: a sign")
        for word in re.findall(r"\w+", row):
            if word in WORDS_NOT_USED or any(part in word for part in PARTS_NOT_USED):
                faults.append(f"L17 {number}: {word}")
    return faults


def bound_names(tree):
    names = []
    for node in ast.walk(tree):
        if isinstance(node, ast.Name) and isinstance(node.ctx, ast.Store):
            names.append(node.id)
        elif isinstance(node, ast.arg):
            names.append(node.arg)
        elif isinstance(node, (ast.FunctionDef, ast.ClassDef)):
            names.append(node.name)
        elif isinstance(node, ast.alias):
            names.append(node.asname or node.name)
        elif isinstance(node, ast.ExceptHandler) and node.name:
            names.append(node.name)
    return names


def fault_of_node(node, bound):
    if not isinstance(node, NODES):
        return "L6 or L7: " + node.__class__.__name__
    if isinstance(node, ast.ImportFrom) and (node.level or not str(node.module).startswith("bridgeties.")):
        return "L2 an import from outside"
    if isinstance(node, ast.alias) and node.name == "*":
        return "L2 an import of everything"
    if isinstance(node, ast.Name) and node.id not in bound and node.id not in PYTHONS_NAMES:
        return "L8 " + node.id
    if isinstance(node, ast.Attribute) and node.attr not in bound and node.attr not in PYTHONS_METHODS:
        return "L25 " + node.attr
    if isinstance(node, ast.FunctionDef) and node.end_lineno - node.lineno >= 40:
        return "L10 a long function"
    if isinstance(node, (ast.FunctionDef, ast.ClassDef)) and node.decorator_list:
        return "L4 or L5 a decorator"
    if isinstance(node, ast.Constant) and isinstance(node.value, (float, complex, bytes)):
        return "L7 a value"
    if isinstance(node, (ast.Div, ast.MatMult)):
        return "L7 an operator"
    if isinstance(node, (ast.For, ast.While)) and node.orelse:
        return "L6 an else behind a loop"
    if isinstance(node, ast.Try) and node.finalbody:
        return "L6 finally"
    if isinstance(node, ast.Assign) and len(node.targets) > 1:
        return "L6 several targets"
    if isinstance(node, ast.arguments) and (node.vararg or node.kwarg or node.kwonlyargs or node.posonlyargs):
        return "L4 parameters"
    return None


def faults_of_names(bound):
    faults = [f"L12 {name}" for name in bound if name.startswith("_") and name not in METHODS_WITH_UNDERSCORES]
    return faults + [f"L15 {name}" for name in bound if name in dir(builtins) and name not in METHODS_WITH_UNDERSCORES]


def imports_of(tree):
    return [(node.module, name.name) for node in tree.body if isinstance(node, ast.ImportFrom) for name in node.names]


def names_at_top(tree):
    names = [name for module, name in imports_of(tree)]
    for node in tree.body:
        if isinstance(node, (ast.FunctionDef, ast.ClassDef)):
            names.append(node.name)
        elif isinstance(node, ast.Assign):
            names.extend(target.id for target in node.targets)
    return names


# Stricter than L15, which lets a local be called like a function of its own file.
def faults_of_top(tree):
    top = names_at_top(tree)
    faults = [f"L15 {name}: bound twice" for name in sorted(set(top)) if top.count(name) > 1]
    for node in tree.body:
        if isinstance(node, ast.FunctionDef):
            local = set(bound_names(node)) - {node.name}
            faults.extend(f"L15 {name}: a local called like a name of the top" for name in sorted(local & set(top)))
    return faults


def faults_of_statements(tree):
    docstring = tree.body[0] if ast.get_docstring(tree) is not None else None
    faults = []
    for node in ast.walk(tree):
        if isinstance(node, ast.Expr) and not isinstance(node.value, ast.Call) and node is not docstring:
            faults.append(f"L6 {node.lineno}: a value by itself")
    for node in tree.body:
        if not isinstance(node, (ast.ImportFrom, ast.FunctionDef, ast.ClassDef, ast.Assign)) and node is not docstring:
            faults.append(f"L3 {node.lineno}: at the top of a file")
    return faults


def faults_of(text):
    tree = ast.parse(text)
    bound = bound_names(tree)
    found = [fault_of_node(node, bound) for node in ast.walk(tree)]
    faults = [fault for fault in found if fault is not None]
    return faults_of_text(text) + faults + faults_of_names(bound) + faults_of_statements(tree) + faults_of_top(tree)


# A file is taken off once all that it draws from is; what is left leads into a circle.
def drawing_in_circles(drawn_from):
    left = dict(drawn_from)
    while True:
        free = [name for name in left if not any(other in left for other in left[name])]
        if not free:
            return sorted(left)
        for name in free:
            del left[name]


class Language(unittest.TestCase):
    def test_the_folder_holds_python_files_alone(self):
        names = [path.name for path in PACKAGE.iterdir() if path.name != "__pycache__"]
        self.assertIn("__init__.py", names)
        for name in names:
            self.assertRegex(name, r"^([a-z][a-z0-9_]*|__init__)\.py$")

    def test_each_file_keeps_to_the_rules(self):
        for path in sorted(PACKAGE.glob("*.py")):
            with self.subTest(file=path.name):
                self.assertEqual(faults_of(path.read_bytes().decode("ascii")), [])

    def test_imports_come_from_the_file_that_defines_the_name_and_not_in_circles(self):
        trees = {f"bridgeties.{path.stem}": ast.parse(path.read_text()) for path in PACKAGE.glob("*.py")}
        for file, tree in trees.items():
            for module, name in imports_of(tree):
                with self.subTest(file=file, module=module, name=name):
                    drawn = [other for source, other in imports_of(trees[module])]
                    self.assertIn(name, names_at_top(trees[module]))
                    self.assertNotIn(name, drawn)
        drawn_from = {file: {module for module, name in imports_of(tree)} for file, tree in trees.items()}
        self.assertEqual(drawing_in_circles(drawn_from), [])
        self.assertEqual(drawing_in_circles({"a": {"b"}, "b": {"c"}, "c": {"b"}, "d": set()}), ["a", "b", "c"])

    def test_a_breach_is_seen(self):
        breaches = (
            "import time\n",
            "from random import choice\n",
            "from .errors import BadSea\n",
            "from bridgeties.errors import *\n",
            "def told():\n    return open('sea')\n",
            "def told(sea):\n    sea.sort()\n",
            "def told(sea):\n    return {row for row in sea}\n",
            "def told(sea):\n    return any(row for row in sea)\n",
            "def told(sea):\n    assert sea\n",
            "def told(sea):\n    return 1 / 2\n",
            "def told(sea):\n    'words'\n    return sea\n",
            "def told(*sea):\n    return sea\n",
            "def told(sea):\n    first = last = sea\n    return first\n",
            "def told(sea):\n    len = 2\n    return len\n",
            "def told(sea):\n    next = 2\n    return next\n",
            "from bridgeties.seas import sights\n\n\ndef told(sea):\n    sights = sea\n    return sights\n",
            "KEPT = 1\nKEPT = 2\n",
            "def _told(sea):\n    return sea\n",
            "def told(sea):\n\treturn sea\n",
            "def told(sea):\n    # its type\n    return sea\n",
            "def told(sea):\n" + "    sea = sea\n" * 40,
            "KEPT = 1.5\n",
            "# \u00e9\n",
            "KEPT = 1\nif KEPT:\n    KEPT\n",
        )
        for text in breaches:
            with self.subTest(text=text):
                self.assertNotEqual(faults_of(text), [])


if __name__ == "__main__":
    unittest.main()
