"""Holds the package's files against a part of the rules of ../shared/LANGUAGE.md.

The numbers in the findings are the rules' own. Rules without a finding here (L11, L13, L28 among them), and what a
rule says beyond its finding, are looked at by eye.
"""

import ast
import builtins
import keyword
import pathlib
import re
import unittest

PACKAGE = pathlib.Path(__file__).resolve().parent.parent / "tiercask"

ERRORS = ("Exception ValueError TypeError KeyError IndexError LookupError ZeroDivisionError ArithmeticError "
          "OverflowError RuntimeError NotImplementedError AttributeError StopIteration").split()
OWN_NAMES = ("len range enumerate zip min max sum abs sorted reversed int str bool list tuple dict set frozenset "
             "isinstance ord repr any all divmod").split() + ERRORS
OWN_METHODS = ("append clear copy count endswith extend find get index insert isalnum isalpha isdigit islower isspace "
               "isupper items join keys ljust lower lstrip partition pop remove replace reverse rfind rjust "
               "rpartition rsplit rstrip setdefault split splitlines startswith strip update upper values zfill "
               "bit_length").split()
TWO_UNDERSCORES = "__init__ __eq__ __repr__ __str__ __len__".split()
WORDS = re.compile(r"\b(type|typing|typing_extensions|enum|Enum|IntEnum|StrEnum|Flag|IntFlag|Generic|Protocol|ABC|"
                   r"ABCMeta|namedtuple|NamedTuple|TypedDict|TYPE_CHECKING|abstractmethod)\b|"
                   r"dataclass|overload|contextmanager")
FILE_NAMES_OUT = "test tests testing site conftest sitecustomize usercustomize typing enum".split()

NODES = """Module Expr Assign AugAssign If While For Return Break Continue Pass Raise Try ExceptHandler FunctionDef
ClassDef ImportFrom alias arguments arg Lambda Constant Name Load Store Attribute Subscript Slice Call keyword List
Tuple Dict Set ListComp comprehension JoinedStr FormattedValue IfExp BinOp UnaryOp BoolOp Compare And Or Not USub UAdd
Invert Add Sub Mult FloorDiv Mod Pow BitAnd BitOr BitXor LShift RShift Eq NotEq Lt LtE Gt GtE Is IsNot In
NotIn""".split()


def defs_of(tree):
    return [node for node in ast.walk(tree) if isinstance(node, (ast.FunctionDef, ast.ClassDef))]


def bound_names(tree):
    names = [node.name for node in defs_of(tree)]
    names += [node.arg for node in ast.walk(tree) if isinstance(node, ast.arg)]
    names += [node.id for node in ast.walk(tree) if isinstance(node, ast.Name) and isinstance(node.ctx, ast.Store)]
    names += [node.name for node in ast.walk(tree) if isinstance(node, ast.ExceptHandler) and node.name]
    return names + [node.name for node in ast.walk(tree) if isinstance(node, ast.alias)]


def of_the_file(path, text):
    found = []
    if not re.fullmatch(r"__init__|[a-z][a-z0-9_]*", path.stem) or keyword.iskeyword(path.stem):
        found.append("L1 file name")
    if path.stem in FILE_NAMES_OUT or path.stem.startswith("test_") or path.stem in set(dir(builtins)) - {"__init__"}:
        found.append("L14 file name")
    if re.search(r"[^ -~\n]", text):
        found.append("L14 sign")
    if WORDS.search(text):
        found.append("L17 word")
    rows = text.split("\n")
    if len(rows) > 400 or max(len(row) for row in rows) > 120:
        found.append("L10 file or line")
    return found


def of_the_top(tree):
    found = []
    for number, node in enumerate(tree.body):
        docstring = number == 0 and isinstance(node, ast.Expr) and isinstance(node.value, ast.Constant)
        if not docstring and not isinstance(node, (ast.ImportFrom, ast.FunctionDef, ast.ClassDef, ast.Assign)):
            found.append(f"L3 line {node.lineno}")
        if isinstance(node, ast.ClassDef):
            if [part for part in node.body if not isinstance(part, (ast.FunctionDef, ast.Pass))] or len(node.bases) > 1:
                found.append(f"L5 line {node.lineno}")
    for node in ast.walk(tree):
        if isinstance(node, ast.ImportFrom):
            if node not in tree.body or node.level or not node.module.startswith("tiercask."):
                found.append(f"L2 line {node.lineno}")
            if [part for part in node.names if part.name == "*" or part.asname]:
                found.append(f"L2 line {node.lineno}")
    return found


def of_a_def(node):
    found = []
    if node.decorator_list:
        found.append(f"L4 line {node.lineno}")
    if isinstance(node, ast.FunctionDef):
        if node.end_lineno - node.lineno + 1 > 40:
            found.append(f"L10 line {node.lineno}")
        if node.args.vararg or node.args.kwarg or node.args.kwonlyargs or node.args.posonlyargs:
            found.append(f"L4 line {node.lineno}")
    return found


def of_a_node(node):
    kind = ast.unparse(node)
    found = []
    if type(node).__name__ not in NODES:
        found.append(f"L6 or L7 {type(node).__name__}: {kind}")
    if isinstance(node, ast.Constant) and not isinstance(node.value, (int, str, type(None))):
        found.append(f"L7 {kind}")
    if isinstance(node, ast.Constant) and isinstance(node.value, str) and "%" in node.value:
        found.append(f"L27 {kind}")
    if isinstance(node, ast.Expr) and not isinstance(node.value, ast.Call):
        found.append(f"L6 {kind}")
    if isinstance(node, ast.Assign) and len(node.targets) != 1:
        found.append(f"L6 {kind}")
    if isinstance(node, (ast.For, ast.While)) and node.orelse or isinstance(node, ast.Try) and node.finalbody:
        found.append(f"L6 {kind}")
    if isinstance(node, ast.ListComp) and (len(node.generators) != 1 or len(node.generators[0].ifs) > 1):
        found.append(f"L7 {kind}")
    if isinstance(node, ast.ExceptHandler) and (
            node.type is None or ast.unparse(node.type) in ("Exception", "TypeError")):
        found.append(f"L19 {kind}")
    if isinstance(node, ast.Compare):
        for operator, right in zip(node.ops, node.comparators):
            if isinstance(operator, (ast.Is, ast.IsNot)) and ast.unparse(right) not in ("None", "True", "False"):
                found.append(f"L20 {kind}")
    return found


def of_names(tree, methods):
    found = []
    bound = bound_names(tree)
    for name in bound:
        if name not in TWO_UNDERSCORES and not re.fullmatch(r"[A-Za-z][A-Za-z0-9_]*", name):
            found.append(f"L12 {name}")
    at_top = [node.name for node in tree.body if isinstance(node, ast.FunctionDef)]
    for name in bound:
        if name in dir(builtins) and (name in at_top or name not in methods):
            found.append(f"L15 {name}")
    for node in ast.walk(tree):
        if isinstance(node, ast.Name) and isinstance(node.ctx, ast.Load) and node.id not in bound + OWN_NAMES:
            found.append(f"L8 {node.id}")
        if isinstance(node, ast.Call) and isinstance(node.func, ast.Attribute):
            if node.func.attr not in OWN_METHODS + TWO_UNDERSCORES + methods:
                found.append(f"L25 {node.func.attr}")
    return found


LAZY_CALLS = "zip enumerate reversed range".split()
LAZY_METHODS = "items keys values".split()
WALKERS = "list tuple dict sorted sum any all enumerate zip min max".split()
KEYWORDS = {"sorted": ["key", "reverse"], "min": ["key", "default"], "max": ["key", "default"], "sum": ["start"],
            "enumerate": ["start"], "zip": ["strict"]}
VALUES_OUT = ("items keys values pop update append clear extend insert remove reverse setdefault sort args encode "
              "format").split()
PYTHONS_OWN = set(dir(str) + dir(int) + dir(list) + dir(dict) + dir(set) + dir(bytes) + dir(tuple))
VALUES_FREE = "count index title find get join lower upper split strip copy add".split()
NAMES_OUT = ("attrgetter breakpoint builtins compile copyright credits delattr dir eval exec exit gc getattr globals "
             "hasattr help id importlib license locals methodcaller os quit setattr super type vars sys __name__ register "
             "mro elements open input version_info with_traceback add_note").split()


def parents_of(tree):
    return {child: node for node in ast.walk(tree) for child in ast.iter_child_nodes(node)}


def is_lazy(node):
    if not isinstance(node, ast.Call):
        return False
    if isinstance(node.func, ast.Name):
        return node.func.id in LAZY_CALLS
    return isinstance(node.func, ast.Attribute) and node.func.attr in LAZY_METHODS


def is_call_of(node, names):
    return isinstance(node, ast.Call) and isinstance(node.func, ast.Name) and node.func.id in names


def of_lazy_things(tree):
    found = []
    parents = parents_of(tree)
    for node in ast.walk(tree):
        if is_lazy(node):
            parent = parents[node]
            walked = isinstance(parent, (ast.For, ast.comprehension)) and parent.iter is node
            inside = is_call_of(parent, WALKERS) and (parent.args[0] is node or parent.func.id == "zip")
            if not walked and not inside:
                found.append(f"L23 line {node.lineno}")
        if is_call_of(node, ["set", "frozenset"]):
            parent = parents[node]
            if not is_call_of(parent, ["len", "sorted"]) and not isinstance(parent, ast.Compare):
                found.append(f"L24 line {node.lineno}")
        if isinstance(node, (ast.Set, ast.SetComp)):
            found.append(f"L24 line {node.lineno}")
        if isinstance(node, ast.For) and isinstance(node.iter, ast.Name):
            for part in ast.walk(node):
                if isinstance(part, ast.Subscript) and isinstance(part.ctx, ast.Store):
                    if ast.unparse(part.value) == node.iter.id:
                        found.append(f"L23 line {part.lineno}")
    return found


def of_locals(tree):
    found = []
    tops = [node.name for node in tree.body if isinstance(node, (ast.FunctionDef, ast.ClassDef))]
    for node in tree.body:
        if isinstance(node, ast.ImportFrom):
            tops += [part.name for part in node.names]
        if isinstance(node, ast.Assign):
            tops += [target.id for target in node.targets if isinstance(target, ast.Name)]
    if len(set(tops)) != len(tops):
        found.append("L15 a name twice")
    for top in tree.body:
        if isinstance(top, (ast.FunctionDef, ast.ClassDef)):
            for node in ast.walk(top):
                name = node.arg if isinstance(node, ast.arg) else None
                if isinstance(node, ast.Name) and isinstance(node.ctx, ast.Store):
                    name = node.id
                if name in tops:
                    found.append(f"L15 line {node.lineno} {name}")
                if isinstance(node, ast.arg) and node.annotation or isinstance(node, ast.FunctionDef) and node.returns:
                    found.append(f"L21 line {node.lineno}")
    return found


def of_words(tree, methods):
    found = []
    for node in ast.walk(tree):
        if isinstance(node, ast.Name) and node.id in NAMES_OUT or isinstance(node, ast.arg) and node.arg in NAMES_OUT:
            found.append(f"L17 line {node.lineno}")
        if isinstance(node, ast.Attribute):
            if node.attr in NAMES_OUT + ["format", "format_map"]:
                found.append(f"L17 line {node.lineno}")
            if isinstance(node.ctx, ast.Store) and (node.attr in methods + VALUES_OUT or (
                    node.attr in PYTHONS_OWN and node.attr not in VALUES_FREE)):
                found.append(f"L18 or L26 line {node.lineno} {node.attr}")
        if isinstance(node, ast.Call) and node.keywords:
            own = KEYWORDS.get(node.func.id, []) if isinstance(node.func, ast.Name) else []
            if [word for word in node.keywords if word.arg not in own] and is_call_of(node, OWN_NAMES):
                found.append(f"L22 line {node.lineno}")
        if isinstance(node, ast.BinOp) and isinstance(node.op, ast.Pow):
            found.append(f"L27 line {node.lineno}")
        if isinstance(node, ast.FormattedValue) and not isinstance(node.value, ast.Name):
            found.append(f"L7 line {node.lineno}")
        if isinstance(node, ast.ExceptHandler) and node.type and ast.unparse(node.type) in ERRORS:
            if ast.unparse(node.type) not in ("KeyError", "ZeroDivisionError", "StopIteration"):
                found.append(f"L19 line {node.lineno}")
        if isinstance(node, ast.Raise) and not isinstance(node.exc, ast.Call):
            found.append(f"L19 line {node.lineno}")
    return found


def drawn_from(tree):
    return [node.module for node in tree.body if isinstance(node, ast.ImportFrom)]


def in_a_ring(trees):
    # Files that draw from nothing but what was taken away are taken away, until none is left or all that are left ring.
    left = {f"tiercask.{path.stem}": drawn_from(tree) for path, tree in trees.items()}
    while True:
        free = [name for name, drawn in left.items() if not [one for one in drawn if one in left]]
        if not free:
            return sorted(left)
        for name in free:
            del left[name]


def not_defined_there(trees):
    found = []
    defined = {}
    for path, tree in trees.items():
        defined[f"tiercask.{path.stem}"] = [node.name for node in tree.body
                                            if isinstance(node, (ast.FunctionDef, ast.ClassDef))]
        defined[f"tiercask.{path.stem}"] += [target.id for node in tree.body if isinstance(node, ast.Assign)
                                             for target in node.targets]
    for path, tree in trees.items():
        for node in tree.body:
            if isinstance(node, ast.ImportFrom):
                found += [f"L16 {path.stem} {part.name}" for part in node.names
                          if part.name not in defined.get(node.module, [])]
                used = [one.id for one in ast.walk(tree) if isinstance(one, ast.Name)]
                found += [f"unused {path.stem} {part.name}" for part in node.names if part.name not in used]
    return found


def methods_of(trees):
    classes = [node for tree in trees for node in ast.walk(tree) if isinstance(node, ast.ClassDef)]
    return [part.name for node in classes for part in node.body if isinstance(part, ast.FunctionDef)]


def findings(path, text, methods=()):
    tree = ast.parse(text)
    found = of_the_file(path, text) + of_the_top(tree) + of_names(tree, list(methods))
    found += of_lazy_things(tree) + of_locals(tree) + of_words(tree, list(methods))
    for node in defs_of(tree):
        found += of_a_def(node)
    docstring = [tree.body[0]] if ast.get_docstring(tree) else []
    for node in ast.walk(tree):
        if node not in docstring:
            found += of_a_node(node)
    return found


class LanguageTest(unittest.TestCase):
    def test_files(self):
        things = [thing for thing in PACKAGE.iterdir() if thing.name != "__pycache__"]
        self.assertTrue((PACKAGE / "__init__.py").is_file())
        self.assertEqual([thing.name for thing in things if not thing.is_file() or thing.suffix != ".py"], [])

    def test_package_keeps_to_the_rules(self):
        texts = {path: path.read_bytes().decode("utf-8") for path in sorted(PACKAGE.glob("*.py"))}
        methods = methods_of([ast.parse(text) for text in texts.values()])
        for path, text in texts.items():
            with self.subTest(file=path.name):
                self.assertEqual(findings(path, text, methods), [])

    def test_files_draw_from_one_another_in_no_ring(self):
        trees = {path: ast.parse(path.read_text()) for path in sorted(PACKAGE.glob("*.py"))}
        self.assertEqual(in_a_ring(trees), [])
        self.assertEqual(not_defined_there(trees), [])
        one, other = pathlib.Path("one.py"), pathlib.Path("other.py")
        ring = {one: ast.parse("from tiercask.other import f"), other: ast.parse("from tiercask.one import f")}
        self.assertEqual(in_a_ring(ring), ["tiercask.one", "tiercask.other"])
        self.assertNotEqual(not_defined_there(ring), [])

    def test_what_is_outside_is_found(self):
        for text in ["x = 1 / 2", "x = 1.5", "x = b''", "import os", "from os import path", "from tiercask.a import *",
                     "def f(*some):\n    pass", "def f(x):\n    with x:\n        pass", "def f(len):\n    pass",
                     "def f(x):\n    x = y = 1", "def f(x):\n    return x is 1", "def f(x):\n    return open(x)",
                     "def f(x):\n    return x.sort()", "def f(x):\n    return {y for y in x}", "x = 'a % b'",
                     "def f(x):\n    try:\n        x()\n    except:\n        pass", "# of that type\nx = 1",
                     "class A:\n    x = 1", "def f():\n" + "    pass\n" * 40, "_x = 1", "x = 1 # " + "y" * 120,
                     "def f(x):\n    assert x", "def f(x):\n    yield x", "x = '\u00e9'", "x = [1]\nx.append(2)",
                     "def f():\n    'a text'", "def f(d):\n    return d.items()", "def f(d):\n    x = range(3)",
                     "def f(d):\n    x = set(d)\n    return 1", "def f(d):\n    for k in d:\n        d[k] = 1",
                     "def f(d):\n    f = 1", "def f(d: int):\n    return d", "x = 1\nx = 2", "def f(x):\n    return x ** 2",
                     "def f(x):\n    return f'{x.y}'", "def f(x):\n    raise x", "def f(x):\n    x.items = 1",
                     "def f(x):\n    try:\n        x()\n    except ValueError:\n        pass",
                     "def f(x):\n    return sorted(x, reversed=True)", "def f(x):\n    return reversed(range(x))"]:
            with self.subTest(text=text):
                self.assertNotEqual(findings(PACKAGE / "some.py", text), [])
        self.assertNotEqual(findings(PACKAGE / "enum.py", "x = 1"), [])
        self.assertEqual(findings(PACKAGE / "some.py", "x = 1"), [])


if __name__ == "__main__":
    unittest.main()
