"""The form of the package's files: a small part of Python, and no clock, chance or files [0.2]."""

import ast
import builtins
import pathlib
import re
import unittest

PACKAGE = pathlib.Path(__file__).resolve().parent.parent / "claspwork"

BUILTINS = set(
    "len range enumerate zip min max sum abs sorted reversed int str bool list tuple dict set frozenset isinstance"
    " ord repr any all divmod Exception ValueError TypeError KeyError IndexError LookupError ZeroDivisionError"
    " ArithmeticError OverflowError RuntimeError NotImplementedError AttributeError StopIteration".split()
)
METHODS = set(
    "append clear copy count endswith extend find get index insert isalnum isalpha isdigit islower isspace isupper"
    " items join keys ljust lower lstrip partition pop remove replace reverse rfind rjust rpartition rsplit rstrip"
    " setdefault split splitlines startswith strip update upper values zfill bit_length".split()
)
SPECIAL_METHODS = set("__init__ __eq__ __repr__ __str__ __len__".split())
NOT_USED = set(
    "register mro elements open input version_info with_traceback add_note attrgetter breakpoint builtins compile"
    " copyright credits delattr dir eval exec exit gc getattr globals hasattr help id importlib license locals"
    " methodcaller os quit setattr super sys type vars".split()
)
BARRED_WORDS = re.compile(
    r"\b(type|typing|typing_extensions|enum|Enum|IntEnum|StrEnum|Flag|IntFlag|Generic|Protocol|ABC|ABCMeta"
    r"|namedtuple|NamedTuple|TypedDict|TYPE_CHECKING|abstractmethod)\b|dataclass|overload|contextmanager"
)
STATEMENTS = (
    ast.FunctionDef, ast.ClassDef, ast.Return, ast.Assign, ast.AugAssign, ast.For, ast.While, ast.If, ast.Raise,
    ast.Try, ast.ImportFrom, ast.Expr, ast.Pass, ast.Break, ast.Continue,
)
EXPRESSIONS = (
    ast.BoolOp, ast.BinOp, ast.UnaryOp, ast.Lambda, ast.IfExp, ast.Dict, ast.ListComp, ast.Compare, ast.Call,
    ast.JoinedStr, ast.FormattedValue, ast.Constant, ast.Attribute, ast.Subscript, ast.Name, ast.List, ast.Tuple,
    ast.Slice,
)
BARRED_VALUES = set(
    "items keys values pop update append clear extend insert remove reverse setdefault sort args encode format".split()
)
KEYWORDS = {
    "sorted": ("key", "reverse"), "min": ("key", "default"), "max": ("key", "default"), "sum": ("start",),
    "enumerate": ("start",), "zip": ("strict",),
}
PLAIN_NAME = re.compile(r"[A-Za-z][A-Za-z0-9_]*")


def text_faults(text):
    lines = text.split("\n")
    if len(lines) > 401:
        yield "L10", len(lines)
    for number, line in enumerate(lines, 1):
        if len(line) > 120:
            yield "L10", number
        if re.search(r"[^ -~]", line):
            yield "L14", number
        if BARRED_WORDS.search(line):
            yield "L17", number


def top_faults(tree):
    for place, node in enumerate(tree.body):
        docstring = place == 0 and isinstance(node, ast.Expr) and isinstance(node.value, ast.Constant)
        if not docstring and not isinstance(node, (ast.ImportFrom, ast.FunctionDef, ast.ClassDef, ast.Assign)):
            yield "L3", node.lineno
        if isinstance(node, ast.Assign) and any(isinstance(inner, ast.Call) for inner in ast.walk(node)):
            yield "L3", node.lineno
    for node in ast.walk(tree):
        if isinstance(node, ast.Expr) and node not in tree.body and not isinstance(node.value, ast.Call):
            yield "L6", node.lineno
        if isinstance(node, (ast.ImportFrom, ast.ClassDef)) and node not in tree.body:
            yield "L2" if isinstance(node, ast.ImportFrom) else "L15", node.lineno


def node_faults(node):
    if isinstance(node, ast.stmt) and not isinstance(node, STATEMENTS):
        yield "L6"
    if isinstance(node, ast.expr) and not isinstance(node, EXPRESSIONS):
        yield "L7"
    if isinstance(node, (ast.Div, ast.MatMult)):
        yield "L7"
    if isinstance(node, ast.Constant) and not isinstance(node.value, (int, str, bool, type(None))):
        yield "L7"
    if isinstance(node, ast.Constant) and isinstance(node.value, str) and "%" in node.value:
        yield "L27"
    if isinstance(node, ast.ListComp) and (len(node.generators) != 1 or len(node.generators[0].ifs) > 1):
        yield "L7"
    if isinstance(node, (ast.For, ast.While)) and node.orelse or isinstance(node, ast.Try) and node.finalbody:
        yield "L6"
    if isinstance(node, ast.Assign) and len(node.targets) != 1:
        yield "L6"
    if isinstance(node, ast.Import):
        yield "L2"
    if isinstance(node, ast.ImportFrom):
        fit = node.level == 0 and node.module.startswith("claspwork.")
        if not fit or any(alias.name == "*" for alias in node.names):
            yield "L2"
    if isinstance(node, ast.Compare) and any(isinstance(sign, (ast.Is, ast.IsNot)) for sign in node.ops):
        if not any(isinstance(side, ast.Constant) for side in [node.left] + node.comparators):
            yield "L20"
    if isinstance(node, ast.ExceptHandler):
        taken = [inner.id for inner in ast.walk(node.type) if isinstance(inner, ast.Name)] if node.type else []
        if not taken or "Exception" in taken or "TypeError" in taken:
            yield "L19"


def def_faults(node):
    if isinstance(node, (ast.FunctionDef, ast.ClassDef)) and node.decorator_list:
        yield "L4"
    if isinstance(node, ast.FunctionDef):
        taken = node.args
        if taken.vararg or taken.kwarg or taken.kwonlyargs or taken.posonlyargs:
            yield "L4"
        if node.end_lineno - node.lineno + 1 > 40:
            yield "L10"
    if isinstance(node, ast.ClassDef):
        if len(node.bases) > 1 or node.keywords:
            yield "L5"
        if not all(isinstance(inner, (ast.FunctionDef, ast.Pass)) for inner in node.body):
            yield "L5"


def call_faults(node):
    if isinstance(node, ast.Call):
        called = node.func.id if isinstance(node.func, ast.Name) else getattr(node.func, "attr", "")
        pythons = called in BUILTINS | METHODS
        if pythons and any(keyword.arg not in KEYWORDS.get(called, ()) for keyword in node.keywords):
            yield "L22"
    if isinstance(node, ast.FormattedValue):
        # 114 is the sign r of a plain {name!r}.
        if not isinstance(node.value, ast.Name) or node.format_spec or node.conversion not in (-1, 114):
            yield "L7"
    if isinstance(node, ast.BinOp) and isinstance(node.op, ast.Pow) and not isinstance(node.right, ast.Constant):
        yield "L27"
    if isinstance(node, ast.Attribute) and isinstance(node.ctx, ast.Store) and node.attr in BARRED_VALUES:
        yield "L26"


def hidden_names(tree):
    """L15: parameters and locals that are called like a class or an import of their file."""
    tops = {node.name for node in tree.body if isinstance(node, ast.ClassDef)}
    tops |= {alias.name for node in tree.body if isinstance(node, ast.ImportFrom) for alias in node.names}
    for node in ast.walk(tree):
        if isinstance(node, (ast.Name, ast.arg)) and bound_name(node) in tops:
            yield "L15", node.lineno


def names_of_both_kinds(trees):
    """L18: names that are a method in one class and a value of an object in some class."""
    methods = set()
    values = set()
    for tree in trees:
        for node in ast.walk(tree):
            if isinstance(node, ast.ClassDef):
                methods |= {inner.name for inner in node.body if isinstance(inner, ast.FunctionDef)}
            if isinstance(node, ast.Attribute) and isinstance(node.ctx, ast.Store):
                values.add(node.attr)
    return sorted(methods & values)


def bound_name(node):
    if isinstance(node, ast.Name) and isinstance(node.ctx, ast.Store):
        return node.id
    if isinstance(node, ast.arg):
        return node.arg
    if isinstance(node, (ast.FunctionDef, ast.ClassDef)):
        return node.name
    return None


def name_faults(node, own_names):
    bound = bound_name(node)
    if bound is not None and bound not in SPECIAL_METHODS:
        if not PLAIN_NAME.fullmatch(bound):
            yield "L12"
        if bound in NOT_USED:
            yield "L17"
        if hasattr(builtins, bound) and not isinstance(node, ast.FunctionDef):
            yield "L15"
    if isinstance(node, ast.Name) and hasattr(builtins, node.id) and node.id not in BUILTINS:
        yield "L8"
    if isinstance(node, ast.Attribute) and node.attr not in METHODS | SPECIAL_METHODS | own_names:
        yield "L25"


def own_names_of(trees):
    """The names of the package's methods, and of the values that its objects are given."""
    names = set()
    for tree in trees:
        for node in ast.walk(tree):
            if isinstance(node, ast.FunctionDef):
                names.add(node.name)
            if isinstance(node, ast.Attribute) and isinstance(node.ctx, ast.Store):
                names.add(node.attr)
    return names


def faults_in(text, own_names=frozenset()):
    tree = ast.parse(text)
    found = list(text_faults(text)) + list(top_faults(tree)) + list(hidden_names(tree))
    for node in ast.walk(tree):
        rules = list(node_faults(node)) + list(def_faults(node)) + list(call_faults(node))
        rules += name_faults(node, own_names)
        found.extend((rule, getattr(node, "lineno", 0)) for rule in rules)
    return found


def drawn_from(tree):
    return [node.module for node in tree.body if isinstance(node, ast.ImportFrom)]


class PackageForm(unittest.TestCase):
    def setUp(self):
        self.files = sorted(path for path in PACKAGE.rglob("*") if "__pycache__" not in path.parts)
        self.trees = {path.stem: ast.parse(path.read_text("ascii")) for path in self.files}

    def test_only_plain_files_lie_in_the_package(self):
        self.assertIn(PACKAGE / "__init__.py", self.files)
        for path in self.files:
            self.assertTrue(path.is_file(), path)
            self.assertRegex(path.name, r"^([a-z][a-z0-9_]*|__init__|__main__)\.py$")

    def test_each_file_keeps_to_the_rules(self):
        own_names = own_names_of(self.trees.values())
        for path in self.files:
            self.assertEqual(faults_in(path.read_text("ascii"), own_names), [], path.name)

    def test_no_name_is_a_method_and_a_value(self):
        self.assertEqual(names_of_both_kinds(self.trees.values()), [])

    def test_names_are_drawn_from_the_file_that_defines_them(self):
        for tree in self.trees.values():
            for node in tree.body:
                if isinstance(node, ast.ImportFrom):
                    defined = self.trees[node.module.split(".")[1]].body
                    names = [bound_name(inner) for inner in defined]
                    names += [inner.targets[0].id for inner in defined if isinstance(inner, ast.Assign)]
                    for alias in node.names:
                        self.assertIn(alias.name, names)

    def test_no_files_draw_from_one_another(self):
        left = {f"claspwork.{stem}": drawn_from(tree) for stem, tree in self.trees.items()}
        self.assertEqual(left["claspwork.__init__"], [])
        while left:
            free = [name for name, drawn in left.items() if not any(other in left for other in drawn)]
            self.assertNotEqual(free, [], left)
            for name in free:
                left.pop(name)


class FaultsAreFound(unittest.TestCase):
    def test_each_wrong_text_breaks_its_rule(self):
        wrong = (
            ("L2", "import time\n"), ("L2", "from random import choice\n"), ("L2", "from . import works\n"),
            ("L3", "for k in range(3):\n    pass\n"), ("L3", "kept = list(range(3))\n"),
            ("L4", "def told(*ends):\n    return ends\n"), ("L5", "class Work:\n    staves = 0\n"),
            ("L6", "def told(a):\n    assert a\n"), ("L6", "def told(a):\n    b = c = a\n    return b + c\n"),
            ("L7", "half = 0.5\n"), ("L7", "def told(a):\n    return a / 2\n"), ("L7", "kept = (k for k in ())\n"),
            ("L8", "def told(a):\n    return open(a)\n"), ("L10", "def told(a):\n" + "    a += 1\n" * 40),
            ("L10", "# " + "-" * 120 + "\n"), ("L12", "def told(_):\n    return 0\n"), ("L14", "# \u00e4\n"),
            ("L14", "#\t\n"), ("L15", "def told(id):\n    return id\n"),
            ("L17", "# type\n"),
            ("L19", "def told(a):\n    try:\n        a()\n    except Exception:\n        pass\n"),
            ("L20", "def told(a, b):\n    return a is b\n"),
            ("L25", "def told(a):\n    a.sort()\n"), ("L27", "sign = '%'\n"),
            ("L7", "def told(a):\n    return f'{a[0]}'\n"), ("L7", "def told(a):\n    return f'{a:3}'\n"),
            ("L15", "from claspwork.works import far_end\n\n\ndef told(far_end):\n    return far_end\n"),
            ("L22", "def told(a):\n    return a.split(sep='-')\n"),
            ("L26", "class Kept:\n    def __init__(self):\n        self.items = []\n"),
            ("L27", "def told(n):\n    return 2 ** n\n"),
        )
        for rule, text in wrong:
            self.assertIn(rule, [found for found, line in faults_in(text)], text)

    def test_a_name_of_both_kinds_is_found(self):
        one = "class One:\n    def done(self):\n        return 0\n"
        other = "class Other:\n    def __init__(self):\n        self.done = 0\n"
        self.assertEqual(names_of_both_kinds([ast.parse(one), ast.parse(other)]), ["done"])
        self.assertEqual(names_of_both_kinds([ast.parse(one)]), [])


if __name__ == "__main__":
    unittest.main()
