"""The part of Python that the package keeps to, as far as a walk through its files can tell (L1 to L28)."""

import ast
import builtins
import pathlib
import re
import unittest

FOLDER = pathlib.Path(__file__).resolve().parent.parent / "roomward"

NODES = """Module Expr Assign AugAssign If While For Return Break Continue Pass Raise Try ExceptHandler FunctionDef
ClassDef arguments arg ImportFrom alias Constant List Tuple Dict Set Name Load Store BinOp UnaryOp BoolOp Compare IfExp
Call keyword Attribute Subscript Slice ListComp comprehension JoinedStr FormattedValue Lambda Add Sub Mult FloorDiv Mod
Pow BitAnd BitOr BitXor LShift RShift Invert USub UAdd Not And Or Eq NotEq Lt LtE Gt GtE Is IsNot In NotIn""".split()
BUILTINS = """len range enumerate zip min max sum abs sorted reversed int str bool list tuple dict set frozenset
isinstance ord repr any all divmod Exception ValueError TypeError KeyError IndexError LookupError ZeroDivisionError
ArithmeticError OverflowError RuntimeError NotImplementedError AttributeError StopIteration""".split()
METHODS = """append clear copy count endswith extend find get index insert isalnum isalpha isdigit islower isspace
isupper items join keys ljust lower lstrip partition pop remove replace reverse rfind rjust rpartition rsplit rstrip
setdefault split splitlines startswith strip update upper values zfill bit_length""".split()
DUNDERS = ("__init__", "__eq__", "__repr__", "__str__", "__len__")
NOT_USED = """register mro elements open input version_info with_traceback add_note attrgetter breakpoint builtins
compile copyright credits delattr dir eval exec exit gc getattr globals hasattr help id importlib license locals
methodcaller os quit setattr super type vars sys format format_map""".split()
WORDS = re.compile(r"\b(type|typing|typing_extensions|enum|Enum|IntEnum|StrEnum|Flag|IntFlag|Generic|Protocol|ABC|"
                   r"ABCMeta|namedtuple|NamedTuple|TypedDict|TYPE_CHECKING|abstractmethod)\b|"
                   r"dataclass|overload|contextmanager")
VALUES_NOT_USED = """items keys values pop update append clear extend insert remove reverse setdefault sort args encode
format""".split()
VALUES_FREE = "count index title find get join lower upper split strip copy add".split()
CALLED_ONLY = """len range enumerate zip min max sum abs sorted reversed int str bool list tuple dict set frozenset
isinstance ord repr any all divmod""".split()
WALKED = "zip enumerate reversed range .items .keys .values".split()
TAKES_WALKED = "list tuple dict sorted sum any all enumerate zip min max".split()
CHANGES = "append clear extend insert pop remove reverse setdefault update add discard".split()
OWN_NAMES = dir(builtins)
PYTHONS_OWN = {name for kind in (str, int, list, dict, set, bytes, tuple) for name in dir(kind)}


def text_faults(text):
    """What a file's rows and signs do against L10, L14 and L17."""
    faults = []
    rows = text.split("\n")
    if len(rows) > 401:
        faults.append("L10 the file is over 400 rows long")
    for number, row in enumerate(rows, start=1):
        if len(row) > 120:
            faults.append(f"L10 row {number} is too long")
        if any(not " " <= sign <= "~" for sign in row):
            faults.append(f"L14 row {number} has another sign")
        if WORDS.search(row):
            faults.append(f"L17 row {number} has a word that stands nowhere")
    return faults


def top_faults(tree):
    """What stands at a file's top against L3, L5, L15 and L16."""
    faults = []
    bound = []
    for place, node in enumerate(tree.body):
        if isinstance(node, (ast.FunctionDef, ast.ClassDef)):
            bound.append(node.name)
        elif isinstance(node, ast.ImportFrom):
            bound.extend(alias.asname or alias.name for alias in node.names)
            if not (node.module or "").startswith("roomward.") or node.level or node.names[0].name == "*":
                faults.append(f"L2 row {node.lineno}")
        elif isinstance(node, ast.Assign):
            bound.append(node.targets[0].id)
        elif not (place == 0 and isinstance(node, ast.Expr) and isinstance(node.value, ast.Constant)):
            faults.append(f"L3 row {node.lineno}")
    if len(bound) != len(set(bound)):
        faults.append("L15 a name is bound twice")
    for node in ast.walk(tree):
        if isinstance(node, (ast.ImportFrom, ast.ClassDef)) and node not in tree.body:
            faults.append(f"L2 or L15 row {node.lineno}")
        if isinstance(node, ast.arg) and node.arg in bound:
            faults.append(f"L15 row {node.lineno}: {node.arg} is called like a name of the file's top")
        if isinstance(node, ast.FunctionDef):
            stored = [n.id for n in ast.walk(node) if isinstance(n, ast.Name) and isinstance(n.ctx, ast.Store)]
            faults.extend(f"L15 row {node.lineno}: {name} is bound again" for name in stored if name in bound)
    return faults


def def_faults(node):
    """What a function or class does against L4, L5, L10 and L28."""
    faults = []
    if node.decorator_list:
        faults.append("L4 decorator")
    if isinstance(node, ast.ClassDef):
        for inner in node.body:
            words = isinstance(inner, ast.Expr) and isinstance(inner.value, ast.Constant)
            if not words and not isinstance(inner, (ast.FunctionDef, ast.Pass)):
                faults.append("L5 a value in a class's body")
        if len(node.bases) > 1 or node.keywords:
            faults.append("L5 bases")
        methods = [inner.name for inner in node.body if isinstance(inner, ast.FunctionDef)]
        if len(methods) != len(set(methods)):
            faults.append("L18 a method stands twice")
        return faults
    if node.end_lineno - node.lineno + 1 > 40:
        faults.append("L10 the function is over 40 rows long")
    told = node.args
    if told.vararg or told.kwarg or told.kwonlyargs or told.posonlyargs:
        faults.append("L4 arguments")
    if any(not isinstance(default, ast.Constant) for default in told.defaults):
        faults.append("L4 default")
    if node.name == "__init__" and any(isinstance(n, ast.Return) and n.value for n in ast.walk(node)):
        faults.append("L28 __init__ gives something back")
    return faults


def name_fault(name):
    """What a name does against L8, L12 and L17."""
    if name.startswith("_") and name not in DUNDERS or not name.isascii():
        return "L12"
    return "L17" if name in NOT_USED else None


def value_fault(node):
    """What a value or an expression does against L7, L20 and L27."""
    if isinstance(node, ast.Constant):
        if not isinstance(node.value, (int, str, bool)) and node.value is not None:
            return "L7 constant"
        return "L27 a percent sign" if isinstance(node.value, str) and chr(37) in node.value else None
    if isinstance(node, ast.BinOp) and isinstance(node.op, ast.Pow):
        written = isinstance(node.right, ast.Constant) and node.right.value in range(65)
        return None if written else "L27 power"
    if isinstance(node, ast.Compare) and any(isinstance(op, (ast.Is, ast.IsNot)) for op in node.ops):
        plain = all(isinstance(n, ast.Constant) and n.value in (None, True, False) for n in node.comparators)
        return None if plain else "L20 is"
    if isinstance(node, ast.ListComp) and (len(node.generators) > 1 or len(node.generators[0].ifs) > 1):
        return "L7 comprehension"
    if isinstance(node, ast.FormattedValue) and not isinstance(node.value, ast.Name):
        return "L7 f-string"
    if isinstance(node, ast.Assign) and len(node.targets) > 1:
        return "L6 targets"
    if isinstance(node, (ast.For, ast.While)) and node.orelse or isinstance(node, ast.Try) and node.finalbody:
        return "L6 else or finally"
    return None


def parents_of(tree):
    """The node in which each node stands."""
    return {inner: node for node in ast.walk(tree) for inner in ast.iter_child_nodes(node)}


def called(node):
    """The name by which a node calls something, a method's with a dot ahead; None where it calls nothing."""
    if isinstance(node, ast.Call) and isinstance(node.func, ast.Name):
        return node.func.id
    return "." + node.func.attr if isinstance(node, ast.Call) and isinstance(node.func, ast.Attribute) else None


def own_value_fault(node, parent, grand):
    """What a name of Python's own does against L22: it is called, stands as a key, or by isinstance."""
    if not isinstance(node, ast.Name) or node.id not in CALLED_ONLY:
        return None
    stands_as_key = isinstance(parent, ast.keyword) and parent.arg == "key"
    by_isinstance = "isinstance" in (called(parent), called(grand))
    good = isinstance(parent, ast.Call) and parent.func == node or stands_as_key or by_isinstance
    return None if good else f"L22 {node.id}"


def keyword_fault(node):
    """What a call's keywords do against L22."""
    allowed = {"sorted": ("key", "reverse"), "min": ("key", "default"), "max": ("key", "default"), "sum": ("start",),
               "enumerate": ("start",), "zip": ("strict",)}
    name = called(node)
    own = name is not None and (name in BUILTINS or name[1:] in METHODS)
    wrong = own and [word for word in node.keywords if word.arg not in allowed.get(name, ())]
    return "L22 keyword" if wrong else None


def walked_fault(node, parent):
    """What is not walked on the spot against L23."""
    if called(node) not in WALKED:
        return None
    behind_in = isinstance(parent, (ast.For, ast.comprehension)) and parent.iter == node
    first = called(parent) in TAKES_WALKED and parent.args[:1] == [node]
    inner = called(parent) in ("zip", ".join") and node in parent.args
    return None if behind_in or first or inner else f"L23 {called(node)}"


def changed_fault(node):
    """What a loop walks and changes, by its text, against L23."""
    if not isinstance(node, ast.For):
        return None
    texts = [ast.unparse(inner) for inner in ast.walk(node.iter) if isinstance(inner, (ast.Name, ast.Attribute))]
    for inner in [n for part in node.body for n in ast.walk(part)]:
        stored = isinstance(inner, ast.Subscript) and isinstance(inner.ctx, ast.Store)
        changes = (called(inner) or "")[1:] in CHANGES
        place = inner.value if stored else inner.func.value if changes else None
        if place is not None and ast.unparse(place) in texts:
            return "L23 what a loop walks is changed"
    return None


def set_fault(node, parent):
    """What a set does against L13 and L24."""
    if not isinstance(node, ast.Set) and called(node) not in ("set", "frozenset"):
        return None
    if isinstance(parent, (ast.Compare, ast.BinOp)):
        return None
    return None if called(parent) in ("sorted", "len") and not parent.keywords else "L24 set"


def note_fault(node):
    """What is told of a value's kind against L21."""
    told = isinstance(node, ast.arg) and node.annotation or isinstance(node, ast.FunctionDef) and node.returns
    return "L21 annotation" if told else None


def handed_fault(node, parent, own_methods):
    """What is a method and isn't called where it stands, against L25."""
    if not isinstance(node, ast.Attribute) or node.attr not in METHODS + own_methods:
        return None
    as_key = isinstance(parent, ast.keyword) and parent.arg == "key"
    return None if as_key or isinstance(parent, ast.Call) and parent.func == node else "L25 a method is handed on"


def lambda_faults(tree):
    """Two lambdas with the same parameters on one row, against L13."""
    rows = [(node.lineno, ast.unparse(node.args)) for node in ast.walk(tree) if isinstance(node, ast.Lambda)]
    return [f"L13 row {row[0]}" for row in sorted(set(rows)) if rows.count(row) > 1]


def place_faults(tree, own_methods):
    """What nodes do against the rules where they stand."""
    parents = parents_of(tree)
    faults = lambda_faults(tree)
    for node in ast.walk(tree):
        parent = parents.get(node)
        found = [own_value_fault(node, parent, parents.get(parent)), keyword_fault(node), walked_fault(node, parent),
                 changed_fault(node), set_fault(node, parent), note_fault(node),
                 handed_fault(node, parent, own_methods)]
        faults.extend(f"row {getattr(node, 'lineno', 0)}: {fault}" for fault in found if fault)
    return faults


def node_faults(tree, own_methods):
    """What the nodes of a file do against the rules, each by itself."""
    faults = []
    for node in ast.walk(tree):
        found = [value_fault(node)]
        if type(node).__name__ not in NODES:
            found.append(f"L6 or L7 {type(node).__name__}")
        if isinstance(node, (ast.FunctionDef, ast.ClassDef)):
            found.extend(def_faults(node) + [name_fault(node.name)])
        if isinstance(node, ast.Name):
            found.append(name_fault(node.id))
            if node.id in OWN_NAMES and (node.id not in BUILTINS or isinstance(node.ctx, ast.Store)):
                found.append(f"L8 {node.id}")
        if isinstance(node, ast.arg):
            found.append("L15" if node.arg in OWN_NAMES else name_fault(node.arg))
        if isinstance(node, ast.Attribute):
            found.append(name_fault(node.attr))
        if isinstance(node, ast.Call) and isinstance(node.func, ast.Attribute):
            if node.func.attr not in METHODS + own_methods + ["__init__"]:
                found.append(f"L25 {node.func.attr}")
        if isinstance(node, ast.ExceptHandler) and (node.type is None or ast.unparse(node.type) in
                                                    ("Exception", "TypeError")):
            found.append("L19 except")
        faults.extend(f"row {getattr(node, 'lineno', 0)}: {fault}" for fault in found if fault)
    return faults


def methods_of(trees):
    """The methods of all classes, but those with two underscores."""
    classes = [node for tree in trees for node in tree.body if isinstance(node, ast.ClassDef)]
    inner = [node.name for kind in classes for node in kind.body if isinstance(node, ast.FunctionDef)]
    return sorted(set(inner) - set(DUNDERS))


def values_of(trees):
    """The values that are given to objects."""
    nodes = [node for tree in trees for node in ast.walk(tree) if isinstance(node, ast.Attribute)]
    return sorted({node.attr for node in nodes if isinstance(node.ctx, ast.Store)})


def package_faults(texts):
    """What the files of a package, a dict of texts by their modules' names, do against the rules."""
    trees = {name: ast.parse(text) for name, text in texts.items()}
    methods, values = methods_of(trees.values()), values_of(trees.values())
    faults = [f"L18 {name} is a method and a value" for name in methods if name in values]
    faults.extend(f"L26 {name}" for name in values if name in VALUES_NOT_USED)
    faults.extend(f"L26 {name}" for name in values if name in PYTHONS_OWN and name not in VALUES_FREE)
    faults.extend(f"L26 {name}" for name in methods
                  if name in PYTHONS_OWN and name not in METHODS + ["add", "discard"])
    for name, tree in trees.items():
        found = text_faults(texts[name]) + top_faults(tree) + node_faults(tree, methods) + place_faults(tree, methods)
        faults.extend(f"{name}: {fault}" for fault in found)
    return faults + import_faults(trees)


def import_faults(trees):
    """What the files draw from one another against L16."""
    defined = {name: [n.name for n in tree.body if isinstance(n, (ast.FunctionDef, ast.ClassDef))]
               + [n.targets[0].id for n in tree.body if isinstance(n, ast.Assign)] for name, tree in trees.items()}
    draws = {name: [node for node in tree.body if isinstance(node, ast.ImportFrom)] for name, tree in trees.items()}
    faults = []
    for name, nodes in draws.items():
        for node in nodes:
            found = defined.get(node.module.rpartition(".")[2], [])
            faults.extend(f"L16 {name}: {a.name}" for a in node.names if a.name not in found)
    ready = []
    for turn in draws:
        ready.extend(name for name, nodes in draws.items() if name not in ready
                     and all(node.module.rpartition(".")[2] in ready for node in nodes))
    return faults + [f"L16 {name} draws in a ring" for name in draws if name not in ready]


# One text against the rules each; the rule that is to be told.
AGAINST = (
    ("L2", "from os import path\n"), ("L2", "from roomward.deeds import *\n"), ("L3", "print(1)\n"),
    ("L4", "def f(*a):\n    return a\n"), ("L4", "def f(a=[]):\n    return a\n"), ("L5", "class A:\n    x = 1\n"),
    ("L6", "def f():\n    assert True\n"), ("L6", "def f():\n    a = b = 1\n    return a\n"), ("L7", "x = 1.5\n"),
    ("L6", "def f(a):\n    for b in a:\n        pass\n    else:\n        return b\n"),
    ("L7", "def f(a):\n    return {b for b in a}\n"), ("L7", "def f(a):\n    return a / 2\n"),
    ("L7", "def f(a):\n    return [c for b in a for c in b]\n"), ("L8", "def f(a):\n    return print(a)\n"),
    ("L8", "def f(a):\n    min = a\n    return min\n"), ("L10", "def f():\n" + "    pass\n" * 40),
    ("L10", "x = " + "1" * 120 + "\n"), ("L12", "def f(a):\n    _b = a\n    return a\n"), ("L14", "# \tword\n"),
    ("L13", "def f(a):\n    return [lambda b: b, lambda b: a]\n"),
    ("L15", "def f(sum):\n    return sum\n"), ("L15", "def f():\n    return 1\n\n\ndef f():\n    return 2\n"),
    ("L15", "X = 1\n\n\ndef f(X):\n    return X\n"), ("L15", "X = 1\n\n\ndef f():\n    X = 2\n    return X\n"),
    ("L16", "from roomward.self import f\n\n\ndef g():\n    f()\n"),
    ("L17", "# of this type\n"), ("L17", "def f(a):\n    return getattr(a, 'b')\n"),
    ("L18", "class A:\n    def b(self):\n        return 1\n\n    def c(self):\n        self.b = 2\n"),
    ("L18", "class A:\n    def b(self):\n        return 1\n\n    def b(self):\n        return 2\n"),
    ("L19", "def f(a):\n    try:\n        return a[0]\n    except TypeError:\n        return None\n"),
    ("L20", "def f(a, b):\n    return a is b\n"), ("L21", "def f(a: int):\n    return a\n"),
    ("L21", "def f(a) -> int:\n    return a\n"), ("L22", "def f(a):\n    return a(len)\n"),
    ("L22", "def f(a):\n    return sorted(a, start=1)\n"), ("L22", "def f(a):\n    return a.split(sep=1)\n"),
    ("L23", "def f(a):\n    b = zip(a, a)\n    return b\n"), ("L23", "def f(a):\n    return a.items()\n"),
    ("L23", "def f(a):\n    for b in a:\n        a.append(b)\n"),
    ("L23", "def f(a):\n    for b, c in a.items():\n        a[b] = c\n"),
    ("L24", "def f(a):\n    b = set(a)\n    return b\n"),
    ("L24", "def f(a):\n    for b in set(a):\n        return b\n"),
    ("L25", "def f(a):\n    return f(a.append)\n"), ("L25", "def f(a):\n    a.sort()\n"),
    ("L26", "class A:\n    def __init__(self):\n        self.args = 1\n"),
    ("L26", "class A:\n    def title(self):\n        return 1\n"), ("L27", "def f(a):\n    return 2 ** a\n"),
    ("L27", "x = '" + chr(37) + "'\n"), ("L28", "class A:\n    def __init__(self):\n        return None\n"),
)


class TheLanguage(unittest.TestCase):
    def test_the_package_keeps_to_it(self):
        texts = {path.stem: path.read_text() for path in sorted(FOLDER.glob("*.py"))}
        self.assertIn("machines", texts)
        self.assertEqual(package_faults(texts), [])

    def test_nothing_else_lies_in_the_package(self):
        for path in FOLDER.iterdir():
            if path.name != "__pycache__":
                self.assertRegex(path.name, r"\A[a-z0-9_]+\.py\Z")
                self.assertNotRegex(path.stem, r"\A(test.*|site|conftest|sitecustomize|usercustomize)\Z")
                self.assertNotIn(path.stem, OWN_NAMES)

    def test_the_walk_sees_what_is_against_it(self):
        for rule, text in AGAINST:
            with self.subTest(rule=rule, text=text):
                self.assertTrue([f for f in package_faults({"self": text}) if re.search(rule + r"\b", f)])


if __name__ == "__main__":
    unittest.main()
