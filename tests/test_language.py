"""The part of Python that the package keeps to, as far as a walk through its source can see it."""

import ast
import builtins
import pathlib
import re
import unittest

PACKAGE = pathlib.Path(__file__).resolve().parent.parent / "passkeep"

OWN_NAMES = set(
    "len range enumerate zip min max sum abs sorted reversed int str bool list tuple dict set frozenset isinstance "
    "ord repr any all divmod Exception ValueError TypeError KeyError IndexError LookupError ZeroDivisionError "
    "ArithmeticError OverflowError RuntimeError NotImplementedError AttributeError StopIteration".split()
)
OWN_METHODS = set(
    "append clear copy count endswith extend find get index insert isalnum isalpha isdigit islower isspace isupper "
    "items join keys ljust lower lstrip partition pop remove replace reverse rfind rjust rpartition rsplit rstrip "
    "setdefault split splitlines startswith strip update upper values zfill bit_length".split()
)
VALUE_NAMES = set("count index title find get join lower upper split strip copy add".split())
DUNDERS = {"__init__", "__eq__", "__repr__", "__str__", "__len__"}
BANNED_NAMES = set(
    "register mro elements open input version_info with_traceback add_note attrgetter breakpoint builtins compile "
    "copyright credits delattr dir eval exec exit gc getattr globals hasattr help id importlib license locals "
    "methodcaller os quit setattr super vars sys chr format format_map print".split()
)
BANNED_WORDS = (
    r"\b(type|typing|typing_extensions|enum|Enum|IntEnum|StrEnum|Flag|IntFlag|Generic|Protocol|ABC|ABCMeta|namedtuple|"
    r"NamedTuple|TypedDict|TYPE_CHECKING|abstractmethod)\b|dataclass|overload|contextmanager"
)
BANNED_FILES = r"tests?|testing|test_.*|site|conftest|sitecustomize|usercustomize|type|typing|enum|namedtuple"
STATEMENTS = (
    ast.Assign, ast.AugAssign, ast.If, ast.While, ast.For, ast.Return, ast.Break, ast.Continue, ast.Pass, ast.Raise,
    ast.Try, ast.FunctionDef, ast.ClassDef, ast.ImportFrom, ast.Expr,
)
EXPRESSIONS = (
    ast.BoolOp, ast.BinOp, ast.UnaryOp, ast.IfExp, ast.Dict, ast.ListComp, ast.Compare, ast.Call, ast.JoinedStr,
    ast.FormattedValue, ast.Constant, ast.Attribute, ast.Subscript, ast.Name, ast.List, ast.Tuple, ast.Slice,
    ast.Lambda, ast.Set,
)
KEYWORDS = {"sorted": {"key", "reverse"}, "min": {"key", "default"}, "max": {"key", "default"}, "sum": {"start"},
            "enumerate": {"start"}, "zip": {"strict"}}


def own_attributes():
    return {name for kind in (str, int, list, dict, set, bytes, tuple) for name in dir(kind)}


def methods_of(tree):
    return {one.name for kind in ast.walk(tree) if isinstance(kind, ast.ClassDef) for one in kind.body
            if isinstance(one, ast.FunctionDef)}


def values_of(tree):
    return {node.attr for node in ast.walk(tree) if isinstance(node, ast.Attribute) and isinstance(node.ctx, ast.Store)}


def bound_at_top(tree):
    names = []
    for node in tree.body:
        if isinstance(node, (ast.FunctionDef, ast.ClassDef)):
            names.append(node.name)
        elif isinstance(node, ast.Assign):
            names += [target.id for target in node.targets if isinstance(target, ast.Name)]
        elif isinstance(node, ast.ImportFrom):
            names += [alias.asname or alias.name for alias in node.names]
    return names


def locals_of(tree):
    names = {node.arg for node in ast.walk(tree) if isinstance(node, ast.arg)}
    names |= {node.name for node in ast.walk(tree) if isinstance(node, ast.ExceptHandler) and node.name}
    for function in ast.walk(tree):
        if isinstance(function, ast.FunctionDef):
            names |= {n.id for n in ast.walk(function) if isinstance(n, ast.Name) and isinstance(n.ctx, ast.Store)}
    return names


def is_docstring(node):
    return isinstance(node, ast.Expr) and isinstance(node.value, ast.Constant) and isinstance(node.value.value, str)


def is_plain(node):
    if isinstance(node, ast.Constant):
        return isinstance(node.value, (int, str)) or node.value is None
    if isinstance(node, (ast.List, ast.Tuple)):
        return all(is_plain(one) for one in node.elts)
    if isinstance(node, ast.Dict):
        return all(is_plain(one) for one in node.keys + node.values)
    return isinstance(node, ast.Name)


class Checker:
    def __init__(self, sources):
        self.sources = sources
        self.trees = {name: ast.parse(source) for name, source in sources.items()}
        self.methods = set().union(*[methods_of(tree) for tree in self.trees.values()])
        self.values = set().union(*[values_of(tree) for tree in self.trees.values()])
        self.found = []

    def say(self, rule, name, row):
        self.found.append((rule, name, row))

    def complaints(self):
        for name, tree in self.trees.items():
            self.rows(name, self.sources[name])
            self.top(name, tree)
            self.names(name, tree)
            for node in ast.walk(tree):
                self.statement(name, node, tree)
                self.expression(name, node)
                self.definition(name, node)
        for both in self.methods & self.values:
            self.say("L18", both, 0)
        self.circles()
        return self.found

    def rows(self, name, source):
        lines = source.split("\n")
        if len(lines) > 401:
            self.say("L10", name, len(lines))
        for row, line in enumerate(lines, start=1):
            if len(line) > 120:
                self.say("L10", name, row)
            if re.search(r"[^ -~]", line):
                self.say("L14", name, row)
            if re.search(BANNED_WORDS, line):
                self.say("L17", name, row)

    def top(self, name, tree):
        for at, node in enumerate(tree.body):
            plain = isinstance(node, ast.Assign) and is_plain(node.value)
            allowed = isinstance(node, (ast.ImportFrom, ast.FunctionDef, ast.ClassDef))
            if not (plain or allowed or (at == 0 and is_docstring(node))):
                self.say("L3", name, node.lineno)
        bound = bound_at_top(tree)
        if len(bound) != len(set(bound)):
            self.say("L15", name, 1)

    def names(self, name, tree):
        around = {one for node in tree.body if isinstance(node, (ast.ClassDef, ast.ImportFrom))
                  for one in bound_at_top(ast.Module([node], []))}
        for local in sorted(locals_of(tree) & (around | set(dir(builtins)))):
            self.say("L15", name + " " + local, 0)
        known = locals_of(tree) | set(bound_at_top(tree)) | OWN_NAMES
        for node in ast.walk(tree):
            if isinstance(node, ast.Name) and node.id not in known:
                self.say("L8", name + " " + node.id, node.lineno)

    def statement(self, name, node, tree):
        if isinstance(node, ast.stmt) and not isinstance(node, STATEMENTS):
            self.say("L6", name, node.lineno)
        if isinstance(node, ast.Expr) and not isinstance(node.value, ast.Call) and node is not tree.body[0]:
            self.say("L6", name, node.lineno)
        if isinstance(node, ast.Assign) and (len(node.targets) != 1 or isinstance(node.targets[0], ast.Tuple)):
            self.say("L6", name, node.lineno)
        if isinstance(node, (ast.For, ast.While)) and node.orelse:
            self.say("L6", name, node.lineno)
        if isinstance(node, ast.Try) and node.finalbody:
            self.say("L6", name, node.lineno)
        if isinstance(node, ast.ExceptHandler) and (node.type is None or ast.unparse(node.type) in
                                                    ("Exception", "TypeError")):
            self.say("L19", name, node.lineno)
        if isinstance(node, ast.Raise) and not isinstance(node.exc, ast.Call):
            self.say("L19", name, node.lineno)
        if isinstance(node, ast.Import):
            self.say("L2", name, node.lineno)
        if isinstance(node, ast.ImportFrom):
            self.imported(name, node)

    def imported(self, name, node):
        source = (node.module or "").partition("passkeep.")[2]
        if node.level or source not in self.trees or not node.module.startswith("passkeep."):
            return self.say("L2", name, node.lineno)
        defined = [one for one in self.trees[source].body if not isinstance(one, ast.ImportFrom)]
        if not {alias.name for alias in node.names} <= set(bound_at_top(ast.Module(defined, []))):
            self.say("L16", name, node.lineno)

    def expression(self, name, node):
        if isinstance(node, ast.expr) and not isinstance(node, EXPRESSIONS):
            self.say("L7", name, node.lineno)
        if isinstance(node, ast.Constant) and not isinstance(node.value, (int, str)) and node.value is not None:
            self.say("L7", name, node.lineno)
        if isinstance(node, ast.Constant) and isinstance(node.value, str) and "%" in node.value:
            self.say("L27", name, node.lineno)
        if isinstance(node, ast.BinOp) and isinstance(node.op, (ast.Div, ast.MatMult)):
            self.say("L7", name, node.lineno)
        if isinstance(node, ast.BinOp) and isinstance(node.op, ast.Pow) and not isinstance(node.right, ast.Constant):
            self.say("L27", name, node.lineno)
        if isinstance(node, ast.Compare) and any(isinstance(op, (ast.Is, ast.IsNot)) for op in node.ops):
            if not isinstance(node.comparators[0], ast.Constant):
                self.say("L20", name, node.lineno)
        if isinstance(node, ast.comprehension) and len(node.ifs) > 1:
            self.say("L7", name, 0)
        if isinstance(node, ast.ListComp) and len(node.generators) != 1:
            self.say("L7", name, node.lineno)
        if isinstance(node, ast.Call):
            self.called(name, node)
        if isinstance(node, ast.Attribute):
            self.attribute(name, node)

    def called(self, name, node):
        words = {keyword.arg for keyword in node.keywords}
        if not words <= KEYWORDS.get(getattr(node.func, "id", ""), set()):
            self.say("L22", name, node.lineno)
        if isinstance(node.func, ast.Attribute):
            if node.func.attr not in OWN_METHODS | self.methods:
                self.say("L25", name, node.lineno)
        if isinstance(node.func, ast.Name) and node.func.id in ("set", "frozenset"):
            self.say("L24", name, node.lineno)

    def attribute(self, name, node):
        if node.attr not in self.methods | self.values | OWN_METHODS | DUNDERS:
            self.say("L26", name, node.lineno)
        if node.attr in self.values and node.attr in own_attributes() - VALUE_NAMES:
            self.say("L26", name, node.lineno)
        if node.attr in BANNED_NAMES:
            self.say("L17", name, node.lineno)
        if isinstance(node.ctx, ast.Store) and not isinstance(node.value, ast.Name):
            self.say("L18", name, node.lineno)

    def definition(self, name, node):
        if isinstance(node, (ast.FunctionDef, ast.ClassDef)):
            if node.decorator_list:
                self.say("L4", name, node.lineno)
            if node.name in BANNED_NAMES or node.name.startswith("_") and node.name not in DUNDERS:
                self.say("L12", name, node.lineno)
        if isinstance(node, ast.arg) and (node.arg.startswith("_") or node.annotation):
            self.say("L12", name, node.lineno)
        if isinstance(node, ast.Name) and isinstance(node.ctx, ast.Store):
            if node.id.startswith("_") or node.id in BANNED_NAMES:
                self.say("L12", name, node.lineno)
        if isinstance(node, ast.FunctionDef):
            self.function(name, node)
        if isinstance(node, ast.ClassDef):
            self.kind(name, node)

    def function(self, name, node):
        if node.args.vararg or node.args.kwarg or node.args.kwonlyargs or node.args.posonlyargs:
            self.say("L4", name, node.lineno)
        if not all(is_plain(one) for one in node.args.defaults):
            self.say("L4", name, node.lineno)
        if node.end_lineno - node.lineno + 1 > 40:
            self.say("L10", name, node.lineno)

    def kind(self, name, node):
        if len(node.bases) > 1 or node.keywords:
            self.say("L5", name, node.lineno)
        inside = [one.name for one in node.body if isinstance(one, ast.FunctionDef)]
        if not all(isinstance(one, (ast.FunctionDef, ast.Pass)) for one in node.body):
            self.say("L5", name, node.lineno)
        if len(inside) != len(set(inside)):
            self.say("L18", name, node.lineno)
        for one in inside:
            if one.startswith("__") and one not in DUNDERS:
                self.say("L5", name, node.lineno)
            if one in own_attributes() - OWN_METHODS - {"add", "discard"} - DUNDERS:
                self.say("L26", name, node.lineno)

    def circles(self):
        drawn = {}
        for name, tree in self.trees.items():
            drawn[name] = {(node.module or "").partition("passkeep.")[2] for node in tree.body
                           if isinstance(node, ast.ImportFrom)}
        while drawn:
            free = [name for name, others in drawn.items() if not others & set(drawn)]
            if not free:
                return self.say("L16", " ".join(sorted(drawn)), 0)
            for name in free:
                del drawn[name]


BAD = (
    ("L2", "import os\n"), ("L2", "from os import path\n"), ("L16", "from passkeep.one import two\ntwo = 1\n"),
    ("L3", "print(1)\n"), ("L4", "def f(*xs):\n    pass\n"), ("L5", "class A:\n    x = 1\n"),
    ("L6", "def f():\n    assert 1\n"), ("L6", "def f(x):\n    a = b = x\n"), ("L6", "def f():\n    'told'\n"),
    ("L7", "def f(x):\n    return x / 2\n"), ("L7", "def f(xs):\n    return all(x for x in xs)\n"), ("L7", "X = 1.5\n"),
    ("L8", "def f(x):\n    return hash(x)\n"), ("L10", "X = 1" + " " * 120 + "\n"),
    ("L10", "def f(x):\n" + "    x = 1\n" * 40), ("L12", "def f(_x):\n    pass\n"), ("L14", "X = '\u00e4'\n"),
    ("L15", "X = 1\nX = 2\n"), ("L15", "class A:\n    pass\n\n\ndef f(A):\n    pass\n"),
    ("L17", "# a type\n"), ("L18", "class A:\n    def x(self):\n        self.x = 1\n"),
    ("L19", "def f():\n    try:\n        f()\n    except Exception:\n        pass\n"),
    ("L20", "def f(x, y):\n    return x is y\n"), ("L22", "def f(x):\n    return int(x, base=2)\n"),
    ("L24", "def f(x):\n    x = set(x)\n"), ("L25", "def f(x):\n    return x.title()\n"),
    ("L26", "class A:\n    def __init__(self):\n        self.items = 1\n"), ("L27", "X = 'a%b'\n"),
    ("L27", "def f(n):\n    return 2 ** n\n"),
)


class LanguageTest(unittest.TestCase):
    def test_files(self):
        found = [path for path in PACKAGE.rglob("*") if "__pycache__" not in path.parts]
        self.assertIn(PACKAGE / "__init__.py", found)
        for path in found:
            self.assertTrue(re.fullmatch(r"[a-z0-9_]+\.py", path.name), path.name)
            self.assertFalse(re.fullmatch(BANNED_FILES, path.stem), path.name)
            self.assertNotIn(path.stem, dir(builtins))

    def test_the_package_keeps_to_the_rules(self):
        sources = {path.stem: path.read_text(encoding="utf-8") for path in PACKAGE.glob("*.py")}
        self.assertEqual(Checker(sources).complaints(), [])

    def test_the_checker_sees_what_is_wrong(self):
        for rule, source in BAD:
            found = [one[0] for one in Checker({"one": source}).complaints()]
            self.assertIn(rule, found, source)


if __name__ == "__main__":
    unittest.main()
