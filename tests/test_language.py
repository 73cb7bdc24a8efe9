"""The rules of the language that can be told from a file's text and tree, for every file of the package.

It looks at L1 to L8, L10, L12, L14, L16, L17, L20, L25 and L27, each in its main parts, and
test_language_names.py at others; what is left is for the writer to keep.
"""

import ast
import builtins
import pathlib
import re
import unittest

PACKAGE = pathlib.Path(__file__).resolve().parent.parent / "gavelhall"

STATEMENTS = (
    ast.FunctionDef, ast.ClassDef, ast.Return, ast.Assign, ast.AugAssign, ast.For, ast.While, ast.If, ast.Raise,
    ast.Try, ast.ImportFrom, ast.Expr, ast.Pass, ast.Break, ast.Continue,
)
EXPRESSIONS = (
    ast.BoolOp, ast.BinOp, ast.UnaryOp, ast.Lambda, ast.IfExp, ast.Dict, ast.Set, ast.ListComp, ast.Compare, ast.Call,
    ast.JoinedStr, ast.FormattedValue, ast.Constant, ast.Attribute, ast.Subscript, ast.Name, ast.List, ast.Tuple,
    ast.Slice,
)
OWN_NAMES = (
    "len range enumerate zip min max sum abs sorted reversed int str bool list tuple dict set frozenset isinstance ord "
    "repr any all divmod Exception ValueError TypeError KeyError IndexError LookupError ZeroDivisionError "
    "ArithmeticError OverflowError RuntimeError NotImplementedError AttributeError StopIteration"
).split()
METHODS = (
    "append clear copy count endswith extend find get index insert isalnum isalpha isdigit islower isspace isupper "
    "items join keys ljust lower lstrip partition pop remove replace reverse rfind rjust rpartition rsplit rstrip "
    "setdefault split splitlines startswith strip update upper values zfill bit_length"
).split()
TWO_UNDERSCORES = ["__init__", "__eq__", "__repr__", "__str__", "__len__"]
BANNED_WORDS = re.compile(
    r"\b(type|typing|typing_extensions|enum|Enum|IntEnum|StrEnum|Flag|IntFlag|Generic|Protocol|ABC|ABCMeta|namedtuple|"
    r"NamedTuple|TypedDict|TYPE_CHECKING|abstractmethod)\b|dataclass|overload|contextmanager"
)
BANNED_NAMES = (
    "register mro elements open input version_info with_traceback add_note attrgetter breakpoint builtins compile "
    "copyright credits delattr dir eval exec exit gc getattr globals hasattr help id importlib license locals "
    "methodcaller os quit setattr super type vars sys __name__ chr print format format_map"
).split()


def files():
    return sorted(PACKAGE.glob("*.py"))


def defined_in(tree):
    names = []
    for node in tree.body:
        if isinstance(node, (ast.FunctionDef, ast.ClassDef)):
            names.append(node.name)
        elif isinstance(node, ast.Assign):
            names.extend([one.id for one in node.targets if isinstance(one, ast.Name)])
    return names


def docstring_of(tree):
    first = tree.body[0] if tree.body else None
    return first if isinstance(first, ast.Expr) and isinstance(first.value, ast.Constant) else None


def names_bound(node):
    if isinstance(node, (ast.FunctionDef, ast.ClassDef)):
        return [node.name]
    if isinstance(node, ast.arg):
        return [node.arg]
    if isinstance(node, ast.Name) and isinstance(node.ctx, ast.Store):
        return [node.id]
    if isinstance(node, ast.Attribute):
        return [node.attr]
    if isinstance(node, ast.ExceptHandler) and node.name:
        return [node.name]
    return []


def faults_of_statement(node, docstring):
    if isinstance(node, ast.stmt) and not isinstance(node, STATEMENTS):
        yield "L6: a statement of another sort"
    if isinstance(node, ast.Expr) and node is not docstring and not isinstance(node.value, ast.Call):
        yield "L6: neither a call nor a docstring"
    if isinstance(node, ast.Assign) and len(node.targets) != 1:
        yield "L6: several targets"
    if isinstance(node, (ast.For, ast.While)) and node.orelse:
        yield "L6: else behind a loop"
    if isinstance(node, ast.Try) and node.finalbody:
        yield "L6: finally"
    if isinstance(node, ast.ExceptHandler) and node.type is None:
        yield "L6: except without a class"
    if isinstance(node, (ast.FunctionDef, ast.ClassDef)) and node.decorator_list:
        yield "L4, L5: a decorator"


def faults_of_def(node):
    if isinstance(node, ast.FunctionDef):
        told = node.args
        if told.vararg or told.kwarg or told.kwonlyargs or told.posonlyargs:
            yield "L4: parameters that are not plain"
        if node.end_lineno - node.lineno + 1 > 40:
            yield "L10: a function of more than 40 lines"
    if isinstance(node, ast.ClassDef):
        if len(node.bases) > 1 or node.keywords:
            yield "L5: more than one base"
        if not all(isinstance(one, (ast.FunctionDef, ast.Pass)) for one in node.body):
            yield "L5: more than methods in a class"


def faults_of_expression(node):
    if isinstance(node, ast.expr) and not isinstance(node, EXPRESSIONS):
        yield "L7: an expression of another sort"
    if isinstance(node, (ast.Div, ast.MatMult)):
        yield "L7: an operator of another sort"
    if isinstance(node, ast.Constant) and not isinstance(node.value, (int, str, type(None))):
        yield "L7: a value of another sort"
    if isinstance(node, ast.Constant) and isinstance(node.value, str) and "%" in node.value:
        yield "L27: the sign % within a text"
    if isinstance(node, ast.ListComp) and (len(node.generators) != 1 or len(node.generators[0].ifs) > 1):
        yield "L7: a comprehension that is not plain"
    if isinstance(node, ast.FormattedValue) and not (
        isinstance(node.value, ast.Name) and node.format_spec is None and node.conversion in (-1, ord("r"))
    ):
        yield "L7: an f-string that is not plain"
    if isinstance(node, (ast.BinOp, ast.AugAssign)) and isinstance(node.op, ast.Pow):
        power = node.right if isinstance(node, ast.BinOp) else node.value
        if not (isinstance(power, ast.Constant) and 0 <= power.value <= 64):
            yield "L27: an exponent that is not written out from 0 to 64"
    if isinstance(node, ast.Compare):
        sides = [node.left] + node.comparators
        for place, operator in enumerate(node.ops):
            if isinstance(operator, (ast.Is, ast.IsNot)):
                plain = [one for one in sides[place:place + 2] if isinstance(one, ast.Constant)]
                if not any(one.value is None or isinstance(one.value, bool) for one in plain):
                    yield "L20: is beside something else"


def faults_of_name(node):
    for name in names_bound(node):
        if name not in TWO_UNDERSCORES and not re.fullmatch(r"[A-Za-z][A-Za-z0-9_]*", name):
            yield f"L12: the name {name}"
        if name in BANNED_NAMES:
            yield f"L17: the name {name}"
        if not isinstance(node, ast.Attribute) and name in vars(builtins):
            yield f"L8, L15: {name} is a name of Python's own"
    if isinstance(node, ast.Name) and node.id in vars(builtins) and node.id not in OWN_NAMES:
        yield f"L8: {node.id} is not used"


def faults_of_imports(tree, trees):
    for node in ast.walk(tree):
        if isinstance(node, ast.ImportFrom):
            parts = (node.module or "").split(".")
            if node not in tree.body:
                yield f"L2: line {node.lineno}: an import that is not at the top"
            if node.level or len(parts) != 2 or parts[0] != PACKAGE.name or parts[1] not in trees:
                yield f"L2: line {node.lineno}: not from a file of the package"
                continue
            for one in node.names:
                if one.name not in defined_in(trees[parts[1]]):
                    yield f"L16: line {node.lineno}: {one.name} is not defined there"


def drawn_from(tree):
    return [node.module.split(".")[-1] for node in tree.body if isinstance(node, ast.ImportFrom)]


def faults_of_tree(tree):
    docstring = docstring_of(tree)
    for node in ast.walk(tree):
        for look in (lambda one: faults_of_statement(one, docstring), faults_of_def, faults_of_expression,
                     faults_of_name):
            for fault in look(node):
                yield f"{fault} (line {getattr(node, 'lineno', '?')})"
    for node in tree.body:
        if node is not docstring and not isinstance(node, (ast.ImportFrom, ast.FunctionDef, ast.ClassDef, ast.Assign)):
            yield f"L3: line {node.lineno}: not for the top of a file"


def faults_of_methods(tree, own):
    for node in ast.walk(tree):
        if isinstance(node, ast.Call) and isinstance(node.func, ast.Attribute):
            if node.func.attr not in METHODS and node.func.attr not in own:
                yield f"L25: line {node.lineno}: the method {node.func.attr}"


def faults_of_text(text):
    rows = text.split("\n")
    if len(rows) - 1 > 400:
        yield "L10: more than 400 lines"
    for number, row in enumerate(rows, start=1):
        if len(row) > 120:
            yield f"L10: line {number}: more than 120 characters"
        if not re.fullmatch(r"[ -~]*", row):
            yield f"L14: line {number}: a sign that is none of the ASCII ones"
        if BANNED_WORDS.search(row):
            yield f"L17: line {number}: {BANNED_WORDS.search(row).group()}"


class Language(unittest.TestCase):
    def setUp(self):
        self.texts = {one.stem: one.read_text(encoding="utf-8") for one in files()}
        self.trees = {name: ast.parse(text) for name, text in self.texts.items()}

    def test_what_lies_in_the_package(self):
        self.assertIn("__init__", self.texts)
        for one in PACKAGE.iterdir():
            if one.name != "__pycache__":
                with self.subTest(one.name):
                    self.assertRegex(one.name, r"^([a-z][a-z0-9_]*|__init__|__main__)\.py$")
                    self.assertNotRegex(one.stem, r"^(test.*|site|conftest|sitecustomize|usercustomize)$")
                    self.assertNotIn(one.stem, vars(builtins))

    def test_texts(self):
        for name, text in self.texts.items():
            with self.subTest(name):
                self.assertEqual(list(faults_of_text(text)), [])

    def test_trees(self):
        for name, tree in self.trees.items():
            with self.subTest(name):
                self.assertEqual(list(faults_of_tree(tree)), [])

    def test_methods(self):
        own = list(TWO_UNDERSCORES)
        for tree in self.trees.values():
            for node in ast.walk(tree):
                if isinstance(node, ast.ClassDef):
                    own.extend([one.name for one in node.body if isinstance(one, ast.FunctionDef)])
        for name, tree in self.trees.items():
            with self.subTest(name):
                self.assertEqual(list(faults_of_methods(tree, own)), [])

    def test_imports(self):
        for name, tree in self.trees.items():
            with self.subTest(name):
                self.assertEqual(list(faults_of_imports(tree, self.trees)), [])

    def test_no_two_files_draw_from_one_another(self):
        left = {name: drawn_from(tree) for name, tree in self.trees.items()}
        while left:
            free = [name for name, needed in left.items() if not [one for one in needed if one in left]]
            self.assertNotEqual(free, [], f"these draw from one another: {sorted(left)}")
            for name in free:
                del left[name]


class TheLookItself(unittest.TestCase):
    """A look that lets everything by would be of no use."""

    def test_faults_in_trees_are_found(self):
        for text in (
            "import math", "x = 1.5", "x = 3 / 2", "x = b'a'", "x = y = 1", "x: int", "del x", "assert x", "x",
            "for k in y:\n    pass", "def f(*a):\n    pass", "def f(a, *, b):\n    pass", "def f():\n    'words'",
            "def f(x):\n    return x is 3", "def f(x):\n    return 2 ** x", "def f(x):\n    return [*x]",
            "def f(x):\n    return {a for a in x}", "def f(x):\n    return f'{x:3}'", "def f(x):\n    return f'{x.y}'",
            "def f(x):\n    with x:\n        pass", "def f(x):\n    yield x", "def f(x):\n    print(x)",
            "def f(x):\n    try:\n        f(x)\n    except:\n        pass", "def f(id):\n    pass",
            "def f(x):\n    for k in x:\n        pass\n    else:\n        pass", "def f(_x):\n    pass",
            "class C:\n    x = 1", "class C(A, B):\n    pass", "@f\ndef g():\n    pass", "x = 'a%b'",
            "def f():\n" + "    pass\n" * 40,
        ):
            with self.subTest(text):
                self.assertNotEqual(list(faults_of_tree(ast.parse(text))), [])

    def test_faults_in_texts_are_found(self):
        for text in ("a\tb", "caf\u00e9", "x" * 121, "x\n" * 401, "# of that type", "# a mydataclasses"):
            with self.subTest(text):
                self.assertNotEqual(list(faults_of_text(text)), [])

    def test_faults_in_imports_and_methods_are_found(self):
        trees = {"wholes": ast.parse("def is_whole(thing):\n    pass")}
        for text in (
            "from math import gcd", "from .wholes import is_whole", "from gavelhall import wholes",
            "from gavelhall.wholes import other", "from gavelhall.others import x",
            "def f():\n    from gavelhall.wholes import is_whole",
        ):
            with self.subTest(text):
                self.assertNotEqual(list(faults_of_imports(ast.parse(text), trees)), [])
        self.assertNotEqual(list(faults_of_methods(ast.parse("x.sort()"), [])), [])


if __name__ == "__main__":
    unittest.main()
