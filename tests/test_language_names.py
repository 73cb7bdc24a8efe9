"""More rules of the language, for every file of the package: those on names, values, and what is walked.

It looks at L15, L18, L19, L21 to L24, L26 and L28, each in its main parts; what is left of them is for the writer
to keep.
"""

import ast
import unittest

from tests.test_language import files

CALLED_ALONE = (
    "len range enumerate zip min max sum abs sorted reversed isinstance ord repr any all divmod"
).split()
KEY_VALUES = "len int str abs sum min max tuple".split()
KEYWORDS = {
    "sorted": ["key", "reverse"], "min": ["key", "default"], "max": ["key", "default"], "sum": ["start"],
    "enumerate": ["start"], "zip": ["strict"],
}
PYTHONS = CALLED_ALONE + "int str bool list tuple dict set frozenset".split()
WALKED = "zip enumerate reversed range".split()
WALKERS = "list tuple dict sorted sum any all enumerate zip min max".split()
FREE_VALUES = "count index title find get join lower upper split strip copy add".split()
OWN_KINDS = (str, int, list, dict, set, bytes)
CHANGES = "append clear extend insert pop remove reverse setdefault update".split()
TAKEN = "KeyError ZeroDivisionError StopIteration ValueError LookupError IndexError".split()


def parents_in(tree):
    return {child: node for node in ast.walk(tree) for child in ast.iter_child_nodes(node)}


def called(node):
    """The plain name that is called, if one is."""
    return node.func.id if isinstance(node, ast.Call) and isinstance(node.func, ast.Name) else None


def faults_of_bindings(tree):
    top = []
    for node in tree.body:
        if isinstance(node, ast.ImportFrom):
            top.extend([one.asname or one.name for one in node.names])
        elif isinstance(node, (ast.FunctionDef, ast.ClassDef)):
            top.append(node.name)
        elif isinstance(node, ast.Assign):
            top.extend([one.id for one in node.targets if isinstance(one, ast.Name)])
    for name in sorted(set(top)):
        if top.count(name) > 1:
            yield f"L15: {name} is bound twice"
    classes = [node.name for node in tree.body if isinstance(node, ast.ClassDef)]
    imports = [one.name for node in tree.body if isinstance(node, ast.ImportFrom) for one in node.names]
    for node in ast.walk(tree):
        name = node.arg if isinstance(node, ast.arg) else None
        if isinstance(node, ast.Name) and isinstance(node.ctx, ast.Store):
            name = node.id
        if name in classes + imports:
            yield f"L15: line {node.lineno}: {name} is a class or an import of the file"


def methods_and_values(trees):
    methods, values = [], []
    for tree in trees:
        for node in ast.walk(tree):
            if isinstance(node, ast.ClassDef):
                methods.extend([one.name for one in node.body if isinstance(one, ast.FunctionDef)])
            if isinstance(node, ast.Attribute) and isinstance(node.ctx, ast.Store):
                values.append(node.attr)
    return methods, values


def faults_of_values(trees):
    methods, values = methods_and_values(trees)
    for name in sorted(set(methods) & set(values)):
        yield f"L18: {name} is a method and a value"
    for name in sorted(set(values)):
        if name == "args" or name not in FREE_VALUES and any(hasattr(kind, name) for kind in OWN_KINDS):
            yield f"L26: the value {name}"


def faults_of_classes(tree):
    for node in ast.walk(tree):
        if isinstance(node, ast.ClassDef):
            names = [one.name for one in node.body if isinstance(one, ast.FunctionDef)]
            if len(set(names)) < len(names):
                yield f"L18: line {node.lineno}: a method stands twice"
        if isinstance(node, ast.FunctionDef) and node.name == "__init__":
            if any(isinstance(one, ast.Return) and one.value for one in ast.walk(node)):
                yield f"L28: line {node.lineno}: __init__ gives something back"
        if isinstance(node, ast.AnnAssign) or getattr(node, "annotation", None) or getattr(node, "returns", None):
            yield f"L21: line {node.lineno}: an annotation"


def faults_of_handlers(tree, own):
    for node in ast.walk(tree):
        if isinstance(node, ast.ExceptHandler) and node.type is not None:
            kinds = node.type.elts if isinstance(node.type, ast.Tuple) else [node.type]
            for kind in kinds:
                if not isinstance(kind, ast.Name) or kind.id not in own + TAKEN:
                    yield f"L19: line {node.lineno}: a class that is not taken"


def faults_of_raises(tree, own):
    for node in ast.walk(tree):
        if isinstance(node, ast.Raise) and called(node.exc) not in own:
            yield f"L19: line {node.lineno}: an error that is not made on the spot, or none of the program's own"
        if isinstance(node, ast.Raise) and node.cause is not None:
            handlers = [one.name for one in ast.walk(tree) if isinstance(one, ast.ExceptHandler) and node in one.body]
            is_none = isinstance(node.cause, ast.Constant) and node.cause.value is None
            if not handlers or not is_none and getattr(node.cause, "id", None) not in handlers:
                yield f"L19: line {node.lineno}: from something else"


def faults_of_calls(tree):
    parents = parents_in(tree)
    for node in ast.walk(tree):
        if isinstance(node, ast.Name) and node.id in CALLED_ALONE:
            parent = parents[node]
            is_key = isinstance(parent, ast.keyword) and parent.arg == "key" and node.id in KEY_VALUES
            if not is_key and not (isinstance(parent, ast.Call) and parent.func is node):
                yield f"L22: line {node.lineno}: {node.id} is kept as a value"
        if called(node) in PYTHONS:
            for one in node.keywords:
                if one.arg not in KEYWORDS.get(called(node), []):
                    yield f"L22: line {node.lineno}: the keyword {one.arg}"
        if called(node) == "isinstance" and len(node.args) == 2:
            kinds = node.args[1].elts if isinstance(node.args[1], ast.Tuple) else [node.args[1]]
            if not all(isinstance(one, ast.Name) for one in kinds):
                yield f"L22: line {node.lineno}: isinstance of something else"


def is_walked(node, parent):
    if isinstance(parent, (ast.For, ast.comprehension)):
        return parent.iter is node
    if isinstance(parent, ast.Call) and isinstance(parent.func, ast.Attribute):
        return parent.func.attr == "join" and isinstance(parent.func.value, ast.Constant)
    if called(parent) == "zip":
        return True
    return called(parent) in WALKERS and parent.args[0] is node


def faults_of_walks(tree):
    parents = parents_in(tree)
    for node in ast.walk(tree):
        view = isinstance(node, ast.Call) and isinstance(node.func, ast.Attribute)
        view = view and node.func.attr in ("items", "keys", "values")
        if (view or called(node) in WALKED) and not is_walked(node, parents[node]):
            yield f"L23: line {node.lineno}: not walked on the spot"
        if isinstance(node, ast.Set) or called(node) in ("set", "frozenset"):
            parent = parents[node]
            while isinstance(parent, ast.BinOp):
                parent = parents[parent]
            if not isinstance(parent, ast.Compare) and called(parent) not in ("sorted", "len"):
                yield f"L24: line {node.lineno}: a set that is kept or walked"


def walked_names(loop):
    """The plain names that a loop walks, itself or through enumerate and its like; a copy is something else."""
    if called(loop.iter) in ("list", "sorted", "tuple", "dict", "range"):
        return []
    return [one.id for one in ast.walk(loop.iter) if isinstance(one, ast.Name)]


def faults_of_changes(tree):
    for loop in ast.walk(tree):
        if isinstance(loop, ast.For):
            names = walked_names(loop)
            for node in [one for row in loop.body for one in ast.walk(row)]:
                changed = None
                if isinstance(node, ast.Call) and isinstance(node.func, ast.Attribute) and node.func.attr in CHANGES:
                    changed = node.func.value
                if isinstance(node, ast.Subscript) and isinstance(node.ctx, ast.Store):
                    changed = node.value
                if isinstance(changed, ast.Name) and changed.id in names:
                    yield f"L23: line {node.lineno}: {changed.id} is changed while it is walked"


def classes_in(trees):
    return [node.name for tree in trees for node in ast.walk(tree) if isinstance(node, ast.ClassDef)]


def faults_of(trees):
    own = classes_in(trees)
    yield from faults_of_values(trees)
    for tree in trees:
        for look in (faults_of_bindings, faults_of_classes, faults_of_calls, faults_of_walks, faults_of_changes,
                     lambda one: faults_of_handlers(one, own), lambda one: faults_of_raises(one, own)):
            for fault in look(tree):
                yield f"{ast.get_docstring(tree)} {fault}"


class LanguageOfNames(unittest.TestCase):
    def test_the_whole_package(self):
        trees = [ast.parse(one.read_text(encoding="utf-8")) for one in files()]
        self.assertEqual(list(faults_of(trees)), [])


class TheLookItself(unittest.TestCase):
    """A look that lets everything by would be of no use."""

    def test_faults_are_found(self):
        for text in (
            "x = 1\nx = 2", "class C:\n    pass\ndef f(C):\n    pass", "def f():\n    pass\ndef f():\n    pass",
            "from a.b import g\ndef f():\n    g = 1", "class C:\n    def f(self):\n        self.f = 1",
            "def f(x):\n    x.keys = 1", "def f(x):\n    x.real = 1", "def f(x):\n    x.args = 1",
            "class C:\n    def f(self):\n        pass\n    def f(self):\n        pass",
            "class C:\n    def __init__(self):\n        return None", "def f(x: int):\n    pass",
            "def f() -> int:\n    pass", "def f():\n    x = len", "def f(x):\n    return sorted(x, key=ord)",
            "def f(x):\n    return int(x, base=2)", "def f(x):\n    return isinstance(x, list | int)",
            "def f(x):\n    y = range(x)", "def f(x):\n    return x.items()", "def f(x):\n    return zip(x, x)",
            "def f(x):\n    y = set(x)", "def f(x):\n    for y in set(x):\n        pass",
            "def f():\n    try:\n        f()\n    except TypeError:\n        pass",
            "def f():\n    try:\n        f()\n    except (KeyError, Exception):\n        pass",
            "def f(x):\n    raise x", "class E(ValueError):\n    pass\ndef f():\n    raise E",
            "def f():\n    raise ValueError(1)", "class E(ValueError):\n    pass\ndef f(x):\n    raise E(1) from x",
            "def f(x):\n    for k in x:\n        x.append(k)", "def f(x):\n    for k in x.items():\n        x.pop(k)",
            "def f(x):\n    for k in enumerate(x):\n        x[0] = k",
        ):
            with self.subTest(text):
                self.assertNotEqual(list(faults_of([ast.parse(text)])), [])

    def test_a_method_of_one_file_and_a_value_of_another(self):
        one = ast.parse("class C:\n    def depth(self):\n        return 1")
        other = ast.parse("class D:\n    def __init__(self):\n        self.depth = 1")
        self.assertEqual(list(faults_of([one])) + list(faults_of([other])), [])
        self.assertNotEqual(list(faults_of([one, other])), [])

    def test_what_is_allowed_is_let_by(self):
        for text in (
            "def f(x):\n    return sorted(x, key=len, reverse=True)", "def f(x):\n    return max(x, default=0)",
            "def f(x):\n    return [k for k in range(x)]", "def f(x):\n    return list(zip(x, reversed(x)))",
            "def f(x):\n    return len(set(x) - set([1]))", "def f(x):\n    return 1 in set(x)",
            "def f(x):\n    for k, v in x.items():\n        pass", "def f(x):\n    x.count = 1",
            "def f(x):\n    return ', '.join(x.keys())", "def f(x):\n    return isinstance(x, (int, str))",
            "def f(x):\n    try:\n        return x[0]\n    except KeyError:\n        return None",
            "class E(ValueError):\n    pass\ndef f():\n    try:\n        f()\n    except E as e:\n"
            "        raise E(1) from e",
            "class E(ValueError):\n    pass\ndef f():\n    try:\n        f()\n    except E:\n"
            "        raise E(1) from None",
            "def f(x):\n    y = []\n    for k in x:\n        y.append(k)",
            "def f(x):\n    for k in list(x):\n        x.pop(k)",
        ):
            with self.subTest(text):
                self.assertEqual(list(faults_of([ast.parse(text)])), [])


if __name__ == "__main__":
    unittest.main()
