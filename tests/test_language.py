"""Holds the package's files against a part of the rules of ../shared/LANGUAGE.md.

The numbers in the findings are the rules' own. Rules without a finding here (L11, L13, L18, L21 to L24, L26, L28
among them), and what a rule says beyond its finding, are looked at by eye.
"""

import ast
import builtins
import keyword
import pathlib
import re
import unittest

PACKAGE = pathlib.Path(__file__).resolve().parent.parent / "tiercask"

ERRORS = ("Exception ValueError TypeError KeyError IndexError LookupError ZeroDivisionError ArithmeticError "
          "OverflowError RuntimeError NotImplementedError AttributeError StopIteration").split()
OWN_NAMES = ("len range enumerate zip min max sum abs sorted reversed int str bool list tuple dict set frozenset "
             "isinstance ord repr any all divmod").split() + ERRORS
OWN_METHODS = ("append clear copy count endswith extend find get index insert isalnum isalpha isdigit islower isspace "
               "isupper items join keys ljust lower lstrip partition pop remove replace reverse rfind rjust "
               "rpartition rsplit rstrip setdefault split splitlines startswith strip update upper values zfill "
               "bit_length").split()
TWO_UNDERSCORES = "__init__ __eq__ __repr__ __str__ __len__".split()
WORDS = re.compile(r"\b(type|typing|typing_extensions|enum|Enum|IntEnum|StrEnum|Flag|IntFlag|Generic|Protocol|ABC|"
                   r"ABCMeta|namedtuple|NamedTuple|TypedDict|TYPE_CHECKING|abstractmethod)\b|"
                   r"dataclass|overload|contextmanager")
FILE_NAMES_OUT = "test tests testing site conftest sitecustomize usercustomize typing enum".split()

NODES = """Module Expr Assign AugAssign If While For Return Break Continue Pass Raise Try ExceptHandler FunctionDef
ClassDef ImportFrom alias arguments arg Lambda Constant Name Load Store Attribute Subscript Slice Call keyword List
Tuple Dict Set ListComp comprehension JoinedStr FormattedValue IfExp BinOp UnaryOp BoolOp Compare And Or Not USub UAdd
Invert Add Sub Mult FloorDiv Mod Pow BitAnd BitOr BitXor LShift RShift Eq NotEq Lt LtE Gt GtE Is IsNot In
NotIn""".split()


def defs_of(tree):
    return [node for node in ast.walk(tree) if isinstance(node, (ast.FunctionDef, ast.ClassDef))]


def bound_names(tree):
    names = [node.name for node in defs_of(tree)]
    names += [node.arg for node in ast.walk(tree) if isinstance(node, ast.arg)]
    names += [node.id for node in ast.walk(tree) if isinstance(node, ast.Name) and isinstance(node.ctx, ast.Store)]
    names += [node.name for node in ast.walk(tree) if isinstance(node, ast.ExceptHandler) and node.name]
    return names + [node.name for node in ast.walk(tree) if isinstance(node, ast.alias)]


def of_the_file(path, text):
    found = []
    if not re.fullmatch(r"__init__|[a-z][a-z0-9_]*", path.stem) or keyword.iskeyword(path.stem):
        found.append("L1 file name")
    if path.stem in FILE_NAMES_OUT or path.stem.startswith("test_") or path.stem in set(dir(builtins)) - {"__init__"}:
        found.append("L14 file name")
    if re.search(r"[^ -~\n]", text):
        found.append("L14 sign")
    if WORDS.search(text):
        found.append("L17 word")
    rows = text.split("\n")
    if len(rows) > 400 or max(len(row) for row in rows) > 120:
        found.append("L10 file or line")
    return found


def of_the_top(tree):
    found = []
    for number, node in enumerate(tree.body):
        docstring = number == 0 and isinstance(node, ast.Expr) and isinstance(node.value, ast.Constant)
        if not docstring and not isinstance(node, (ast.ImportFrom, ast.FunctionDef, ast.ClassDef, ast.Assign)):
            found.append(f"L3 line {node.lineno}")
        if isinstance(node, ast.ClassDef):
            if [part for part in node.body if not isinstance(part, (ast.FunctionDef, ast.Pass))] or len(node.bases) > 1:
                found.append(f"L5 line {node.lineno}")
    for node in ast.walk(tree):
        if isinstance(node, ast.ImportFrom):
            if node not in tree.body or node.level or not node.module.startswith("tiercask."):
                found.append(f"L2 line {node.lineno}")
            if [part for part in node.names if part.name == "*" or part.asname]:
                found.append(f"L2 line {node.lineno}")
    return found


def of_a_def(node):
    found = []
    if node.decorator_list:
        found.append(f"L4 line {node.lineno}")
    if isinstance(node, ast.FunctionDef):
        if node.end_lineno - node.lineno + 1 > 40:
            found.append(f"L10 line {node.lineno}")
        if node.args.vararg or node.args.kwarg or node.args.kwonlyargs or node.args.posonlyargs:
            found.append(f"L4 line {node.lineno}")
    return found


def of_a_node(node):
    kind = ast.unparse(node)
    found = []
    if type(node).__name__ not in NODES:
        found.append(f"L6 or L7 {type(node).__name__}: {kind}")
    if isinstance(node, ast.Constant) and not isinstance(node.value, (int, str, type(None))):
        found.append(f"L7 {kind}")
    if isinstance(node, ast.Constant) and isinstance(node.value, str) and "%" in node.value:
        found.append(f"L27 {kind}")
    if isinstance(node, ast.Expr) and not isinstance(node.value, ast.Call):
        found.append(f"L6 {kind}")
    if isinstance(node, ast.Assign) and len(node.targets) != 1:
        found.append(f"L6 {kind}")
    if isinstance(node, (ast.For, ast.While)) and node.orelse or isinstance(node, ast.Try) and node.finalbody:
        found.append(f"L6 {kind}")
    if isinstance(node, ast.ListComp) and (len(node.generators) != 1 or len(node.generators[0].ifs) > 1):
        found.append(f"L7 {kind}")
    if isinstance(node, ast.ExceptHandler) and (
            node.type is None or ast.unparse(node.type) in ("Exception", "TypeError")):
        found.append(f"L19 {kind}")
    if isinstance(node, ast.Compare):
        for operator, right in zip(node.ops, node.comparators):
            if isinstance(operator, (ast.Is, ast.IsNot)) and ast.unparse(right) not in ("None", "True", "False"):
                found.append(f"L20 {kind}")
    return found


def of_names(tree, methods):
    found = []
    bound = bound_names(tree)
    for name in bound:
        if name not in TWO_UNDERSCORES and not re.fullmatch(r"[A-Za-z][A-Za-z0-9_]*", name):
            found.append(f"L12 {name}")
    at_top = [node.name for node in tree.body if isinstance(node, ast.FunctionDef)]
    for name in bound:
        if name in dir(builtins) and (name in at_top or name not in methods):
            found.append(f"L15 {name}")
    for node in ast.walk(tree):
        if isinstance(node, ast.Name) and isinstance(node.ctx, ast.Load) and node.id not in bound + OWN_NAMES:
            found.append(f"L8 {node.id}")
        if isinstance(node, ast.Call) and isinstance(node.func, ast.Attribute):
            if node.func.attr not in OWN_METHODS + TWO_UNDERSCORES + methods:
                found.append(f"L25 {node.func.attr}")
    return found


def methods_of(trees):
    classes = [node for tree in trees for node in ast.walk(tree) if isinstance(node, ast.ClassDef)]
    return [part.name for node in classes for part in node.body if isinstance(part, ast.FunctionDef)]


def findings(path, text, methods=()):
    tree = ast.parse(text)
    found = of_the_file(path, text) + of_the_top(tree) + of_names(tree, list(methods))
    for node in defs_of(tree):
        found += of_a_def(node)
    docstring = [tree.body[0]] if ast.get_docstring(tree) else []
    for node in ast.walk(tree):
        if node not in docstring:
            found += of_a_node(node)
    return found


class LanguageTest(unittest.TestCase):
    def test_files(self):
        things = [thing for thing in PACKAGE.iterdir() if thing.name != "__pycache__"]
        self.assertTrue((PACKAGE / "__init__.py").is_file())
        self.assertEqual([thing.name for thing in things if not thing.is_file() or thing.suffix != ".py"], [])

    def test_package_keeps_to_the_rules(self):
        texts = {path: path.read_bytes().decode("utf-8") for path in sorted(PACKAGE.glob("*.py"))}
        methods = methods_of([ast.parse(text) for text in texts.values()])
        for path, text in texts.items():
            with self.subTest(file=path.name):
                self.assertEqual(findings(path, text, methods), [])

    def test_what_is_outside_is_found(self):
        for text in ["x = 1 / 2", "x = 1.5", "x = b''", "import os", "from os import path", "from tiercask.a import *",
                     "def f(*some):\n    pass", "def f(x):\n    with x:\n        pass", "def f(len):\n    pass",
                     "def f(x):\n    x = y = 1", "def f(x):\n    return x is 1", "def f(x):\n    return open(x)",
                     "def f(x):\n    return x.sort()", "def f(x):\n    return {y for y in x}", "x = 'a % b'",
                     "def f(x):\n    try:\n        x()\n    except:\n        pass", "# of that type\nx = 1",
                     "class A:\n    x = 1", "def f():\n" + "    pass\n" * 40, "_x = 1", "x = 1 # " + "y" * 120,
                     "def f(x):\n    assert x", "def f(x):\n    yield x", "x = '\u00e9'", "x = [1]\nx.append(2)",
                     "def f():\n    'a text'"]:
            with self.subTest(text=text):
                self.assertNotEqual(findings(PACKAGE / "some.py", text), [])
        self.assertNotEqual(findings(PACKAGE / "enum.py", "x = 1"), [])
        self.assertEqual(findings(PACKAGE / "some.py", "x = 1"), [])


if __name__ == "__main__":
    unittest.main()
