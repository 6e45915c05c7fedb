"""A part of the rules of the program's form; not looked for are L11, L13, L21 to L24 and L28."""
import ast
import builtins
import pathlib
import re
import unittest

PACKAGE = pathlib.Path(__file__).resolve().parent.parent / "conicplaces"

ALLOWED_BUILTINS = set("""
len range enumerate zip min max sum abs sorted reversed int str bool list tuple dict set frozenset isinstance ord repr
any all divmod Exception ValueError TypeError KeyError IndexError LookupError ZeroDivisionError ArithmeticError
OverflowError RuntimeError NotImplementedError AttributeError StopIteration
""".split())

ALLOWED_METHODS = set("""
append clear copy count endswith extend find get index insert isalnum isalpha isdigit islower isspace isupper items
join keys ljust lower lstrip partition pop remove replace reverse rfind rjust rpartition rsplit rstrip setdefault
split splitlines startswith strip update upper values zfill bit_length
""".split())

UNUSED_NAMES = set("""
register mro elements open input version_info with_traceback add_note format format_map attrgetter breakpoint
builtins compile copyright credits delattr dir eval exec exit gc getattr globals hasattr help id importlib license
locals methodcaller os quit setattr super type vars sys
""".split())

UNSAID_WORDS = re.compile(
    r"\b(type|typing|typing_extensions|enum|Enum|IntEnum|StrEnum|Flag|IntFlag|Generic|Protocol|ABC|ABCMeta|namedtuple"
    r"|NamedTuple|TypedDict|TYPE_CHECKING|abstractmethod)\b|dataclass|overload|contextmanager")

SPECIAL_METHODS = {"__init__", "__eq__", "__repr__", "__str__", "__len__"}

ALLOWED_NODES = set("""
Module FunctionDef ClassDef Return Assign AugAssign For While If Raise Try ExceptHandler ImportFrom alias Expr Pass
Break Continue BoolOp And Or BinOp Add Sub Mult FloorDiv Mod Pow LShift RShift BitOr BitXor BitAnd UnaryOp
Invert Not UAdd USub Lambda IfExp Dict Set ListComp comprehension Compare Eq NotEq Lt LtE Gt GtE Is IsNot In NotIn
Call keyword JoinedStr FormattedValue Constant Attribute Subscript Slice Name List Tuple Load Store arguments arg
""".split())


def faults_of_text(text):
    rows = text.split("\n")
    if len(text.splitlines()) > 400:
        yield "L10: more than 400 lines"
    for number, row in enumerate(rows, start=1):
        if len(row) > 120:
            yield f"L10: line {number} is longer than 120"
        if any(not " " <= sign <= "~" for sign in row):
            yield f"L14: line {number} has a sign outside the blank to ~"
        if UNSAID_WORDS.search(row):
            yield f"L17: line {number} says a word that stands nowhere"


def names_bound(node):
    if isinstance(node, (ast.FunctionDef, ast.ClassDef)):
        yield node.name
    if isinstance(node, ast.arg):
        yield node.arg
    if isinstance(node, ast.Name) and isinstance(node.ctx, ast.Store):
        yield node.id
    if isinstance(node, ast.ExceptHandler) and node.name:
        yield node.name


def faults_of_names(node, methods):
    for name in names_bound(node):
        if name.startswith("_") and name not in SPECIAL_METHODS | {"__all__", "__version__"}:
            yield "L12: a name begins with an underscore"
        if hasattr(builtins, name) and name not in methods:
            yield f"L15: {name} is a name of Python's own"
    if isinstance(node, ast.Name) and (node.id in UNUSED_NAMES or (
            hasattr(builtins, node.id) and node.id not in ALLOWED_BUILTINS)):
        yield f"L8, L17: {node.id}"


def faults_of_definitions(node):
    if isinstance(node, ast.FunctionDef):
        if node.end_lineno - node.lineno + 1 > 40:
            yield f"L10: {node.name} has more than 40 lines"
        if node.decorator_list:
            yield "L4: a decorator"
    if isinstance(node, ast.arguments) and (node.vararg or node.kwarg or node.kwonlyargs or node.posonlyargs):
        yield "L4: other than plain parameters"
    if isinstance(node, ast.ClassDef):
        if len(node.bases) > 1 or node.keywords or node.decorator_list:
            yield "L5: more than one base"
        if any(not isinstance(part, (ast.FunctionDef, ast.Pass)) for part in node.body):
            yield "L5: a value in the class body"


def faults_of_statements(node):
    if isinstance(node, ast.ImportFrom):
        if node.level or not node.module.startswith("conicplaces.") or any(part.name == "*" for part in node.names):
            yield "L2, L16: an import of another form"
    if isinstance(node, ast.Assign) and len(node.targets) != 1:
        yield "L6: more than one target"
    if isinstance(node, (ast.For, ast.While)) and node.orelse:
        yield "L6: else behind a loop"
    if isinstance(node, ast.Try) and node.finalbody:
        yield "L6: finally"
    if isinstance(node, ast.ExceptHandler):
        taken = [part.id for part in ast.walk(node.type) if isinstance(part, ast.Name)] if node.type else []
        if not taken or {"Exception", "TypeError"} & set(taken):
            yield "L19: an except of this form"


def faults_of_values(node):
    if isinstance(node, ast.Constant) and isinstance(node.value, (float, complex, bytes)):
        yield "L7: a float or bytes"
    if isinstance(node, ast.Constant) and isinstance(node.value, str) and "%" in node.value:
        yield "L27: the sign of percent in a text"
    if isinstance(node, ast.ListComp) and (len(node.generators) > 1 or len(node.generators[0].ifs) > 1):
        yield "L7: a comprehension of more than one for or if"
    if isinstance(node, ast.FormattedValue) and (
            not isinstance(node.value, ast.Name) or node.format_spec or node.conversion not in (-1, ord("r"))):
        yield "L7: an f-string of another form"
    if isinstance(node, ast.BinOp) and isinstance(node.op, ast.Pow):
        if not (isinstance(node.right, ast.Constant) and 0 <= node.right.value <= 64):
            yield "L27: an exponent that isn't written"
    if isinstance(node, ast.Compare) and any(isinstance(op, (ast.Is, ast.IsNot)) for op in node.ops):
        sides = [node.left, *node.comparators]
        if not any(isinstance(side, ast.Constant) and repr(side.value) in ("None", "True", "False") for side in sides):
            yield "L20: is between values"


def own_names(trees):
    methods, values = set(), set()
    for tree in trees:
        for node in ast.walk(tree):
            if isinstance(node, ast.ClassDef):
                methods |= {part.name for part in node.body if isinstance(part, ast.FunctionDef)}
            if isinstance(node, ast.Attribute) and isinstance(node.ctx, ast.Store):
                values.add(node.attr)
    return methods, values


def faults_of_top(tree):
    bound = []
    for node in tree.body:
        if isinstance(node, ast.Expr) and not isinstance(node.value, ast.Constant):
            yield "L3: something is done at the top"
        elif not isinstance(node, (ast.Expr, ast.FunctionDef, ast.ClassDef, ast.ImportFrom, ast.Assign)):
            yield f"L3: {node.__class__.__name__} at the top"
        bound += [part.name for part in node.names] if isinstance(node, ast.ImportFrom) else []
        bound += [node.name] if isinstance(node, (ast.FunctionDef, ast.ClassDef)) else []
        bound += [target.id for target in node.targets] if isinstance(node, ast.Assign) else []
    if len(bound) != len(set(bound)):
        yield "L15: a name bound twice at the top"


def faults_of_tree(tree, methods, values):
    yield from faults_of_top(tree)
    for node in ast.walk(tree):
        if node.__class__.__name__ not in ALLOWED_NODES:
            yield f"L6, L7: {node.__class__.__name__}"
        if isinstance(node, ast.Attribute) and node.attr not in ALLOWED_METHODS | methods | values:
            yield f"L25: {node.attr}"
        yield from faults_of_names(node, methods)
        yield from faults_of_definitions(node)
        yield from faults_of_statements(node)
        yield from faults_of_values(node)


def faults_of(text):
    tree = ast.parse(text)
    return [*faults_of_text(text), *faults_of_tree(tree, *own_names([tree]))]


def drawn_from(tree):
    return {node.module.split(".")[1] for node in ast.walk(tree) if isinstance(node, ast.ImportFrom)}


class Package(unittest.TestCase):
    def setUp(self):
        self.files = sorted(path for path in PACKAGE.iterdir() if path.name != "__pycache__")
        self.texts = {path.stem: path.read_bytes().decode("utf-8") for path in self.files}
        self.trees = {name: ast.parse(text) for name, text in self.texts.items()}

    def test_files(self):
        self.assertIn("__init__", self.texts)
        for path in self.files:
            self.assertTrue(path.is_file() and re.fullmatch(r"[a-z0-9_]+\.py", path.name), path)
            if path.stem != "__init__":
                self.assertFalse(hasattr(builtins, path.stem) or path.stem in UNUSED_NAMES, path)

    def test_every_file_keeps_to_the_form(self):
        methods, values = own_names(self.trees.values())
        self.assertEqual(methods & values, set())
        for name, text in self.texts.items():
            faults = [*faults_of_text(text), *faults_of_tree(self.trees[name], methods, values)]
            self.assertEqual(faults, [], name)

    def test_no_two_files_draw_from_one_another(self):
        below = {name: drawn_from(tree) for name, tree in self.trees.items()}
        self.assertEqual(below["__init__"], set())
        done = set()
        while len(done) < len(below):
            ready = {name for name, drawn in below.items() if name not in done and drawn <= done}
            self.assertTrue(ready, "files that draw from one another")
            done |= ready

    def test_names_are_drawn_from_the_file_that_defines_them(self):
        for name, tree in self.trees.items():
            for node in ast.walk(tree):
                if isinstance(node, ast.ImportFrom):
                    source = self.trees[node.module.split(".")[1]]
                    defined = {part for top in source.body if not isinstance(top, ast.ImportFrom)
                               for walked in ast.walk(top) for part in names_bound(walked)}
                    self.assertLessEqual({part.name for part in node.names}, defined, name)


class Checker(unittest.TestCase):
    def test_what_is_within_the_form(self):
        self.assertEqual(faults_of('"""Words."""\n\n\ndef f(a):\n    return [x ** 2 for x in range(a) if x > 1]\n'), [])

    def test_what_is_outside_the_form(self):
        within = ("a = b = 1", "x = 1 / 2", "x = 1.5", "x = 2 ** a", "import math", "from math import gcd",
                  "from .errors import NoNumber", "del a", "assert a", "x = (y := a)", "x = {b for b in a}",
                  "x = {b: b for b in a}", "x = sum(b for b in a)", "x = [b for b in a for c in b]", "x = print(a)",
                  "x = a.sort()", "x = f'{a + 1}'", "x = f'{a:3}'", "x = a is x", "x = a is 1", "x = '%'", "_x = a",
                  "list = a",
                  "x = [*a]", "x = pow(a, a)", "x = a  # type", "x = '\u00e4'", "\tx = a", "global x",
                  "def g(*a): return a", "x = " + "1 + " * 40 + "1")
        for row in within:
            self.assertTrue(faults_of(f"def f(a):\n  {row}\n" if row[0] != "\t" else f"def f(a):\n{row}\n"), row)
        for text in ("f()", "for a in [1]:\n    pass", "class A:\n    b = 1",
                     "class A(ValueError, KeyError):\n    pass",
                     "def f():\n" + "    pass\n" * 40, "a = 1\n" * 401, "a = 1\na = 2",
                     "def f():\n    try:\n        pass\n    except Exception:\n        pass",
                     "def f():\n    for a in [1]:\n        pass\n    else:\n        pass"):
            self.assertTrue(faults_of(text), text)


if __name__ == "__main__":
    unittest.main()
