"""The package keeps to its small part of Python, so far as a short check can see it."""

import ast
import builtins
import pathlib
import re
import unittest

PACKAGE = pathlib.Path(__file__).resolve().parent.parent / "cisternyard"

OWN_NAMES = set(
    "len range enumerate zip min max sum abs sorted reversed int str bool list tuple dict set frozenset isinstance "
    "ord repr any all divmod Exception ValueError TypeError KeyError IndexError LookupError ZeroDivisionError "
    "ArithmeticError OverflowError RuntimeError NotImplementedError AttributeError StopIteration".split()
)
OWN_METHODS = set(
    "append clear copy count endswith extend find get index insert isalnum isalpha isdigit islower isspace isupper "
    "items join keys ljust lower lstrip partition pop remove replace reverse rfind rjust rpartition rsplit rstrip "
    "setdefault split splitlines startswith strip update upper values zfill bit_length".split()
)
TWO_UNDERSCORES = {"__init__", "__eq__", "__repr__", "__str__", "__len__"}
WORDS = (
    r"\b(type|typing|typing_extensions|enum|Enum|IntEnum|StrEnum|Flag|IntFlag|Generic|Protocol|ABC|ABCMeta|namedtuple"
    r"|NamedTuple|TypedDict|TYPE_CHECKING|abstractmethod)\b|dataclass|overload|contextmanager"
)
OUTSIDE = (
    ast.With, ast.Match, ast.Delete, ast.Global, ast.Nonlocal, ast.Assert, ast.Yield, ast.YieldFrom, ast.Await,
    ast.AsyncFunctionDef, ast.AsyncFor, ast.AsyncWith, ast.Div, ast.SetComp, ast.DictComp, ast.GeneratorExp,
    ast.NamedExpr, ast.Starred, ast.Import, ast.MatMult, ast.AnnAssign,
)
TOP = (ast.ImportFrom, ast.FunctionDef, ast.ClassDef, ast.Assign)


def faults_of_text(text):
    rows = text.split("\n")
    if len(rows) > 401:
        yield "a file of more than 400 lines"
    if re.search(r"[^\n -~]", text):
        yield "a sign that is not plain"
    if re.search(WORDS, text):
        yield "a word that stands nowhere"
    if max(len(row) for row in rows) > 120:
        yield "a line of more than 120 characters"


def faults_of_top(tree):
    body = tree.body[1:] if ast.get_docstring(tree) is not None else tree.body
    for node in body:
        if not isinstance(node, TOP):
            yield f"{type(node).__name__} at the top"


def bound_names(tree):
    for node in ast.walk(tree):
        if isinstance(node, ast.Name) and isinstance(node.ctx, ast.Store):
            yield node.id
        elif isinstance(node, ast.arg):
            yield node.arg
        elif isinstance(node, (ast.FunctionDef, ast.ClassDef)):
            yield node.name
        elif isinstance(node, ast.Attribute) and isinstance(node.ctx, ast.Store):
            yield node.attr


def faults_of_names(tree, methods):
    for name in bound_names(tree):
        if name.startswith("_") and name not in TWO_UNDERSCORES:
            yield f"the name {name}"
        if name in vars(builtins):
            yield f"{name} given another meaning"
    for node in ast.walk(tree):
        if isinstance(node, ast.Name) and node.id in vars(builtins) and node.id not in OWN_NAMES:
            yield f"Python's own name {node.id}"
        if isinstance(node, ast.Call) and isinstance(node.func, ast.Attribute):
            if node.func.attr not in OWN_METHODS | TWO_UNDERSCORES | methods:
                yield f"the method {node.func.attr}"


def faults_of_node(node):
    if isinstance(node, OUTSIDE):
        yield type(node).__name__
    if isinstance(node, ast.ImportFrom) and (node.level or not node.module.startswith("cisternyard.")):
        yield "an import from outside"
    if isinstance(node, (ast.For, ast.While)) and node.orelse:
        yield "else behind a loop"
    if isinstance(node, ast.Try) and node.finalbody:
        yield "finally"
    if isinstance(node, ast.Assign) and len(node.targets) > 1:
        yield "an assignment with several targets"
    if isinstance(node, ast.Constant) and isinstance(node.value, (float, complex, bytes)):
        yield "a value outside the language"
    if isinstance(node, ast.Constant) and isinstance(node.value, str) and "%" in node.value:
        yield "a text with a sign that is left out"
    if isinstance(node, ast.ListComp) and (len(node.generators) > 1 or len(node.generators[0].ifs) > 1):
        yield "a comprehension of several parts"
    if isinstance(node, ast.ClassDef):
        if node.decorator_list or len(node.bases) > 1 or any(isinstance(row, ast.Assign) for row in node.body):
            yield "a class that is not plain"
    if isinstance(node, ast.FunctionDef):
        named = node.args
        if node.decorator_list or named.vararg or named.kwarg or named.kwonlyargs or named.posonlyargs:
            yield "a function that is not plain"
        if node.end_lineno - node.lineno + 1 > 40:
            yield "a function of more than 40 lines"


def imports_of(tree):
    """The imported names, each with the file that it comes from."""
    rows = [node for node in tree.body if isinstance(node, ast.ImportFrom)]
    return {name.asname or name.name: row.module.partition(".")[2] for row in rows for name in row.names}


def defined_in(tree):
    found = {node.name for node in tree.body if isinstance(node, (ast.FunctionDef, ast.ClassDef))}
    return found | {name.id for node in tree.body if isinstance(node, ast.Assign) for name in node.targets}


def faults_of_locals(tree):
    classes = {node.name for node in tree.body if isinstance(node, ast.ClassDef)}
    for function in ast.walk(tree):
        if isinstance(function, ast.FunctionDef):
            named = {name for name in bound_names(function) if name != function.name}
            for name in sorted(named & (classes | set(imports_of(tree)))):
                yield f"{name} given another meaning"


def files_drawn_from(drawn, name):
    """The files from which this one draws, in whatever many steps."""
    found = set()
    ahead = list(drawn[name])
    while ahead:
        other = ahead.pop()
        if other not in found:
            found.add(other)
            ahead.extend(drawn[other])
    return found


def methods_of(trees):
    classes = [node for tree in trees for node in ast.walk(tree) if isinstance(node, ast.ClassDef)]
    return {row.name for node in classes for row in node.body if isinstance(row, ast.FunctionDef)}


def faults(text, methods=frozenset()):
    tree = ast.parse(text)
    found = list(faults_of_text(text)) + list(faults_of_top(tree)) + list(faults_of_names(tree, methods))
    found.extend(faults_of_locals(tree))
    for node in ast.walk(tree):
        found.extend(faults_of_node(node))
    return found


class Language(unittest.TestCase):
    def test_every_file_keeps_to_it(self):
        texts = {path.name: path.read_text(encoding="utf-8") for path in PACKAGE.glob("*.py")}
        self.assertIn("__init__.py", texts)
        methods = methods_of([ast.parse(text) for text in texts.values()])
        for name, text in texts.items():
            with self.subTest(file=name):
                self.assertEqual(faults(text, methods), [])

    def test_imports_come_from_where_the_name_is_defined_and_go_in_no_ring(self):
        trees = {path.stem: ast.parse(path.read_text(encoding="utf-8")) for path in PACKAGE.glob("*.py")}
        drawn = {name: sorted(set(imports_of(tree).values())) for name, tree in trees.items()}
        for name, tree in trees.items():
            with self.subTest(file=name):
                self.assertNotIn(name, files_drawn_from(drawn, name))
                for imported, origin in imports_of(tree).items():
                    self.assertIn(imported, defined_in(trees[origin]))

    def test_the_check_sees_a_ring_of_imports(self):
        drawn = {"a": ["b"], "b": ["c"], "c": ["b"]}
        self.assertEqual(files_drawn_from(drawn, "a"), {"b", "c"})
        self.assertIn("b", files_drawn_from(drawn, "b"))

    def test_nothing_else_lies_in_the_package(self):
        for path in PACKAGE.iterdir():
            if path.name != "__pycache__":
                self.assertRegex(path.name, r"\A([a-z][a-z0-9_]*|__init__)\.py\Z")

    def test_the_check_sees_what_is_outside(self):
        outside = (
            "import os", "from math import gcd", "from .errors import BadYard", "print(1)", "x = 1 / 2", "x = 1.5",
            "_x = 1", "def f(*xs):\n    return xs", "def f():\n    assert True", "def f(x):\n    x.sort()",
            "def f(xs):\n    return all(x for x in xs)", "def f(list):\n    return list", "x = 'a%'", "x = y = 1",
            "class A:\n    x = 1", "def f():\n" + "    pass\n" * 40, "x = 1\n" * 401, "# " + "x" * 120,
            "# a type", "\tx = 1".strip() + "\t", "def f(x):\n    return hash(x)", "for x in (1, 2):\n    pass",
            "def f(x):\n    for y in x:\n        pass\n    else:\n        pass",
            "from cisternyard.plans import most\n\ndef f(most):\n    return most",
            "class A:\n    pass\n\ndef f():\n    A = 1\n    return A",
        )
        for text in outside:
            with self.subTest(text=text):
                self.assertNotEqual(faults(text), [])

    def test_the_check_lets_pass_what_is_within(self):
        within = '"""A text."""\n\nMOST = 4\n\n\ndef f(xs):\n    return sum([x // 2 for x in xs if x != MOST])\n'
        self.assertEqual(faults(within), [])


if __name__ == "__main__":
    unittest.main()
