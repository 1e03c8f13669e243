"""The written form of the package's files: the rules of ../shared/LANGUAGE.md that can be seen row by row.

It doesn't see every rule; what it finds is surely outside of them.
"""

import ast
import builtins
import pathlib
import re
import unittest

PACKAGE = pathlib.Path(__file__).resolve().parent.parent / "shellround"

STATEMENTS = """
    Module FunctionDef ClassDef arguments arg keyword alias ImportFrom Assign AugAssign AnnAssign If While For Return
    Break Continue Pass Raise Try ExceptHandler Expr Assert Delete
""".split()
EXPRESSIONS = """
    Constant Name Attribute Subscript Slice Call List Tuple Dict Set ListComp DictComp SetComp comprehension Lambda IfExp
    BoolOp And Or UnaryOp Not USub UAdd Invert BinOp Add Sub Mult FloorDiv Mod Pow LShift RShift BitAnd BitOr BitXor
    Compare Eq NotEq Lt LtE Gt GtE Is IsNot In NotIn JoinedStr FormattedValue Starred Load Store Del
""".split()
OWN_OF_PYTHON = """
    len range enumerate zip min max sum abs sorted reversed int str bool bytes list tuple dict set frozenset isinstance
    ord repr any all divmod Exception ValueError TypeError KeyError IndexError LookupError ZeroDivisionError
    ArithmeticError OverflowError RuntimeError NotImplementedError AttributeError StopIteration
""".split()
METHODS_OF_PYTHON = """
    append clear copy count endswith extend find get index insert isalnum isalpha isdigit islower isspace isupper items
    join keys ljust lower lstrip partition pop remove replace reverse rfind rjust rpartition rsplit rstrip setdefault
    split splitlines startswith strip update upper values zfill bit_length sort
""".split()
TWO_UNDERSCORES = ["__init__", "__eq__", "__repr__", "__str__", "__len__"]
UNUSED_WORDS = re.compile(
    r"\b(type|typing|typing_extensions|enum|Enum|IntEnum|StrEnum|Flag|IntFlag|Generic|Protocol|ABC|ABCMeta|namedtuple"
    r"|NamedTuple|TypedDict|TYPE_CHECKING|abstractmethod)\b|dataclass|overload|contextmanager"
)


def row_faults(text):
    rows = text.split("\n")
    if len(rows) - 1 > 400:
        yield "L10: over 400 rows"
    for at, row in enumerate(rows, start=1):
        if len(row) > 120:
            yield f"L10: row {at} is too long"
        if any(not " " <= sign <= "~" for sign in row):
            yield f"L14: row {at} has a sign that is out"
        if UNUSED_WORDS.search(row):
            yield f"L17: row {at} has a word that is out"


def import_faults(node):
    if node.level or not (node.module or "").startswith("shellround."):
        yield f"L2: row {node.lineno} draws from outside"
    if any(name.name == "*" for name in node.names):
        yield f"L2: row {node.lineno} draws all"


def def_faults(node):
    if node.end_lineno - node.lineno + 1 > 40:
        yield f"L10: {node.name} is too long"
    handed = node.args
    if node.decorator_list or handed.vararg or handed.kwarg or handed.posonlyargs:
        yield f"L4: {node.name} has a decorator or starred parameters"


def class_faults(node):
    if node.decorator_list or node.keywords or len(node.bases) > 1:
        yield f"L5: {node.name} has a decorator or several bases"
    for row in node.body:
        docstring = isinstance(row, ast.Expr) and isinstance(row.value, ast.Constant)
        if not (docstring or isinstance(row, (ast.FunctionDef, ast.Pass))):
            yield f"L5: {node.name} has a value in its body"


def name_faults(name, row):
    if name.startswith("_") and name not in TWO_UNDERSCORES:
        yield f"L12: row {row} has the name {name}"


def compare_faults(node):
    sides = [node.left, *node.comparators]
    for at, sign in enumerate(node.ops):
        plain = any(isinstance(side, ast.Constant) and side.value in (None, True, False) for side in sides[at:at + 2])
        if isinstance(sign, (ast.Is, ast.IsNot)) and not plain:
            yield f"L20: row {node.lineno} asks whether two are the very same"


def node_faults(node):
    kind = node.__class__.__name__
    row = getattr(node, "lineno", 0)
    if kind not in STATEMENTS + EXPRESSIONS:
        yield f"L6, L7: row {row} has {kind}"
    if isinstance(node, ast.ImportFrom):
        yield from import_faults(node)
    if isinstance(node, ast.FunctionDef):
        yield from def_faults(node)
    if isinstance(node, ast.ClassDef):
        yield from class_faults(node)
    if isinstance(node, (ast.FunctionDef, ast.ClassDef)):
        yield from name_faults(node.name, row)
    if isinstance(node, ast.arg):
        yield from name_faults(node.arg, row)
        if hasattr(builtins, node.arg):
            yield f"L15: row {row} has a parameter called {node.arg}"
    if isinstance(node, ast.Compare):
        yield from compare_faults(node)
    if isinstance(node, ast.Attribute):
        yield from name_faults(node.attr, row)
    if isinstance(node, ast.Name):
        yield from name_faults(node.id, row)
        if hasattr(builtins, node.id) and (node.id not in OWN_OF_PYTHON or not isinstance(node.ctx, ast.Load)):
            yield f"L8, L15: row {row} has Python's own name {node.id}"
    if isinstance(node, ast.Constant):
        if isinstance(node.value, (float, complex)):
            yield f"L7: row {row} has a number that isn't whole"
        if isinstance(node.value, str) and chr(37) in node.value:
            yield f"L27: row {row} has a percent sign in a text"


def faults(text):
    found = list(row_faults(text))
    for node in ast.walk(ast.parse(text)):
        found.extend(node_faults(node))
    return found


def shadow_faults(tree):
    """Parameters and locals that are called like a class or an import of their file (L15)."""
    tops = {row.name for row in tree.body if isinstance(row, ast.ClassDef)}
    tops |= {name.asname or name.name for row in tree.body if isinstance(row, ast.ImportFrom) for name in row.names}
    for node in ast.walk(tree):
        name = node.arg if isinstance(node, ast.arg) else getattr(node, "id", None)
        if name in tops and not isinstance(getattr(node, "ctx", None), ast.Load):
            yield f"L15: row {node.lineno} gives the name {name}"


def methods_in(tree):
    return {
        row.name for node in ast.walk(tree) if isinstance(node, ast.ClassDef)
        for row in node.body if isinstance(row, ast.FunctionDef)
    }


def values_in(tree):
    """What objects are given."""
    return {
        node.attr for node in ast.walk(tree) if isinstance(node, ast.Attribute) and isinstance(node.ctx, ast.Store)
    }


def package_faults(texts):
    """What is seen only where all files are looked at (L15, L18, L24, L25)."""
    trees = [ast.parse(text) for text in texts]
    methods = set().union(*[methods_in(tree) for tree in trees])
    values = set().union(*[values_in(tree) for tree in trees])
    found = [f"L18: {name} is a method and a value" for name in sorted(methods & values)]
    for tree in trees:
        found.extend(shadow_faults(tree))
        called = {id(node.func) for node in ast.walk(tree) if isinstance(node, ast.Call)}
        for node in ast.walk(tree):
            if not isinstance(node, ast.Attribute):
                continue
            if id(node) in called and node.attr not in methods and node.attr not in METHODS_OF_PYTHON:
                found.append(f"L25: row {node.lineno} calls {node.attr}")
            if id(node) not in called and node.attr not in values:
                found.append(f"L18: row {node.lineno} asks for {node.attr}")
    return found


class FormTest(unittest.TestCase):
    def test_only_plain_files_lie_in_the_package(self):
        for path in PACKAGE.rglob("*"):
            if "__pycache__" in path.parts:
                continue
            with self.subTest(path.name):
                self.assertTrue(path.is_file())
                self.assertRegex(path.name, r"\A(__init__|__main__|[a-z][a-z0-9_]*)\.py\Z")
        self.assertTrue((PACKAGE / "__init__.py").is_file())

    def test_each_file_keeps_to_the_language(self):
        for path in sorted(PACKAGE.rglob("*.py")):
            with self.subTest(path.name):
                self.assertEqual(faults(path.read_bytes().decode("utf-8")), [])

    def test_the_files_together_keep_to_the_language(self):
        self.assertEqual(package_faults([path.read_text("utf-8") for path in PACKAGE.rglob("*.py")]), [])

    def test_what_is_outside_in_several_files_is_seen(self):
        one = "class A:\n    def go(self):\n        self.many = 1\n"
        self.assertEqual(package_faults([one, "def f(box):\n    return box.go() + box.many\n"]), [])
        for other in (
            "def f(box):\n    box.go = 5\n",
            "def f(box):\n    return box.gone()\n",
            "def f(box):\n    return box.few\n",
            "def f(box):\n    return box.intersection([])\n",
            "class B:\n    def many(self):\n        return 1\n",
            "from shellround.ring import onward\n\n\ndef f(onward):\n    return onward\n",
            "class B:\n    pass\n\n\ndef f(x):\n    B = x\n    return B\n",
        ):
            with self.subTest(other):
                self.assertNotEqual(package_faults([one, other]), [])

    def test_what_is_outside_is_seen(self):
        outside = [
            "import os\n",
            "from os import path\n",
            "from .errors import BadRing\n",
            "from shellround.errors import *\n",
            "def f(*xs):\n    return xs\n",
            "def f(x):\n    return x / 2\n",
            "def f(x):\n    return x * 2.5\n",
            "def f(xs):\n    return sum(x for x in xs)\n",
            "def f(xs):\n    yield xs\n",
            "def f(x):\n    return chr(x)\n",
            "def f(x):\n    return [len for len in x]\n",
            "def f(sum):\n    return 1\n",
            "def f(x, y):\n    return x is y\n",
            "def f(x):\n    _y = x\n    return _y\n",
            "def f(x):\n    with x:\n        return 1\n",
            "def f():\n" + "    pass\n" * 40,
            "class A:\n    b = 1\n",
            "A = 1" + " " * 120 + "\n",
            "A = 1\n" * 401,
            "A = \"\u00e9\"\n",
            "A = 1\t\n",
            "A = \"5" + chr(37) + "\"\n",
            "# a type of thing\n",
        ]
        for text in outside:
            with self.subTest(text[:60]):
                self.assertNotEqual(faults(text), [])


if __name__ == "__main__":
    unittest.main()
