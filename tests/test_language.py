"""Holds the package's files to those rules of the language document that a walk over the code can see."""

import ast
import builtins
import pathlib
import re
import unittest

PACKAGE = pathlib.Path(__file__).resolve().parent.parent / "bores"

OWN_ERRORS = """Exception ValueError TypeError KeyError IndexError LookupError ZeroDivisionError ArithmeticError
    OverflowError RuntimeError NotImplementedError AttributeError StopIteration""".split()
BUILTINS = """len range enumerate zip min max sum abs sorted reversed int str bool list tuple dict set frozenset
    isinstance ord repr any all divmod""".split() + OWN_ERRORS
METHODS = """append clear copy count endswith extend find get index insert isalnum isalpha isdigit islower isspace
    isupper items join keys ljust lower lstrip partition pop remove replace reverse rfind rjust rpartition rsplit
    rstrip setdefault split splitlines startswith strip update upper values zfill bit_length""".split()
UNDERSCORED = "__init__ __eq__ __repr__ __str__ __len__ __all__ __version__".split()
UNUSED_NAMES = """register mro elements open input version_info with_traceback add_note attrgetter methodcaller gc
    importlib os sys builtins format format_map sort args encode""".split()
UNUSED_WORDS = re.compile(
    r"\b(type|typing|typing_extensions|enum|Enum|IntEnum|StrEnum|Flag|IntFlag|Generic|Protocol|ABC|ABCMeta"
    r"|namedtuple|NamedTuple|TypedDict|TYPE_CHECKING|abstractmethod)\b|dataclass|overload|contextmanager"
)
PLAIN_NAME = re.compile(r"[A-Za-z][A-Za-z0-9_]*")
NODES = """Module ImportFrom alias FunctionDef arguments arg Lambda ClassDef Assign AugAssign If While For Return Break
    Continue Pass Raise Try ExceptHandler Expr Constant List Tuple Dict Set BinOp Add Sub Mult FloorDiv Mod Pow
    BitAnd BitOr BitXor LShift RShift UnaryOp USub UAdd Not Invert Compare Eq NotEq Lt LtE Gt GtE Is IsNot In NotIn
    BoolOp And Or IfExp Call keyword Attribute Subscript Slice ListComp comprehension JoinedStr FormattedValue Name
    Load Store""".split()


def names_in(node):
    if isinstance(node, ast.Name):
        return [node.id]
    if isinstance(node, ast.Attribute):
        return [node.attr]
    if isinstance(node, (ast.FunctionDef, ast.ClassDef)):
        return [node.name]
    if isinstance(node, (ast.arg, ast.keyword)):
        return [node.arg]
    if isinstance(node, ast.ExceptHandler) and node.name:
        return [node.name]
    return []


def names_bound_by(node):
    if isinstance(node, ast.Assign):
        return [name for target in node.targets for name in names_in(target)]
    return names_in(node)


def faults_of_files(paths):
    faults = []
    for path in paths:
        if path.suffix != ".py" or not re.fullmatch(r"[a-z0-9_]+", path.stem):
            faults.append((path.name, 0, "L1"))
    if "__init__.py" not in [path.name for path in paths]:
        faults.append(("__init__.py", 0, "L14"))
    return faults


def faults_of_text(text):
    faults = []
    rows = text.split("\n")
    if len(rows) > 401:
        faults.append((len(rows), "L10"))
    for number, row in enumerate(rows, start=1):
        if len(row) > 120:
            faults.append((number, "L10"))
        if not re.fullmatch(r"[ -~]*", row):
            faults.append((number, "L14"))
        if UNUSED_WORDS.search(row):
            faults.append((number, "L17"))
    return faults


def faults_of_top(tree):
    faults = []
    bound = []
    imports_are_over = False
    for number, node in enumerate(tree.body):
        if isinstance(node, ast.ImportFrom):
            if imports_are_over or node.level or not (node.module or "").startswith("bores."):
                faults.append((node.lineno, "L2"))
            bound += [name.asname or name.name for name in node.names]
        elif isinstance(node, (ast.FunctionDef, ast.ClassDef)):
            bound.append(node.name)
        elif isinstance(node, ast.Assign) and isinstance(node.targets[0], ast.Name):
            bound.append(node.targets[0].id)
        elif number or not ast.get_docstring(tree):
            faults.append((node.lineno, "L3"))
        imports_are_over = imports_are_over or (number > 0 and not isinstance(node, ast.ImportFrom))
    if len(set(bound)) != len(bound):
        faults.append((0, "L15"))
    return faults


def is_faulty_statement(node):
    if isinstance(node, ast.Assign):
        return len(node.targets) != 1
    if isinstance(node, (ast.For, ast.While)):
        return bool(node.orelse)
    if isinstance(node, ast.Try):
        return bool(node.finalbody) or any(handler.type is None for handler in node.handlers)
    if isinstance(node, ast.Expr):
        return not isinstance(node.value, (ast.Call, ast.Constant))
    return False


def is_faulty_def(node):
    if isinstance(node, ast.ClassDef):
        plain = all(isinstance(part, (ast.FunctionDef, ast.Pass)) for part in node.body)
        return not plain or bool(node.decorator_list or node.keywords) or len(node.bases) > 1
    if isinstance(node, ast.FunctionDef):
        return bool(node.decorator_list) or node.end_lineno - node.lineno >= 40
    if isinstance(node, ast.arguments):
        return bool(node.vararg or node.kwarg or node.kwonlyargs or node.posonlyargs)
    return False


def is_faulty_value(node):
    if isinstance(node, ast.Constant):
        return not isinstance(node.value, (int, str, type(None))) or "%" in str(node.value)
    if isinstance(node, ast.ListComp):
        return len(node.generators) != 1 or len(node.generators[0].ifs) > 1
    if isinstance(node, ast.keyword):
        return node.arg is None
    return False


def is_faulty_is(node):
    if not isinstance(node, ast.Compare) or not any(isinstance(sign, (ast.Is, ast.IsNot)) for sign in node.ops):
        return False
    sides = [node.left] + node.comparators
    return not any(isinstance(side, ast.Constant) and side.value in (None, True, False) for side in sides)


def rules_broken_by_names(node):
    broken = []
    for name in names_in(node):
        if name not in UNDERSCORED and not PLAIN_NAME.fullmatch(name):
            broken.append("L12")
        if name in UNUSED_NAMES:
            broken.append("L17")
    if isinstance(node, ast.Name) and hasattr(builtins, node.id):
        if node.id not in BUILTINS or isinstance(node.ctx, ast.Store):
            broken.append("L8")
    if isinstance(node, ast.arg) and hasattr(builtins, node.arg):
        broken.append("L15")
    return broken


def faults_of_code(tree, own_methods):
    faults = []
    for node in ast.walk(tree):
        line = getattr(node, "lineno", 0)
        if type(node).__name__ not in NODES:
            faults.append((line, "L6 or L7"))
        if is_faulty_statement(node):
            faults.append((line, "L6"))
        if is_faulty_def(node):
            faults.append((line, "L4, L5 or L10"))
        if is_faulty_value(node):
            faults.append((line, "L7 or L27"))
        if is_faulty_is(node):
            faults.append((line, "L20"))
        if isinstance(node, ast.Call) and isinstance(node.func, ast.Attribute):
            if node.func.attr not in METHODS + own_methods + ["__init__"]:
                faults.append((line, "L25"))
        faults += [(line, rule) for rule in rules_broken_by_names(node)]
    return faults


def methods_of(trees):
    return [
        part.name
        for tree in trees
        for node in tree.body
        if isinstance(node, ast.ClassDef)
        for part in node.body
        if isinstance(part, ast.FunctionDef)
    ]


def values_of_objects(trees):
    return [
        node.attr
        for tree in trees
        for node in ast.walk(tree)
        if isinstance(node, ast.Attribute) and isinstance(node.ctx, ast.Store)
    ]


def locals_of(tree):
    # Each parameter and each name that is bound within a def, but the names of the file's top.
    names = []
    for node in ast.walk(tree):
        if isinstance(node, ast.arg):
            names.append(node.arg)
        if isinstance(node, ast.Name) and isinstance(node.ctx, ast.Store) and node not in names_of_top(tree):
            names.append(node.id)
    return names


def names_of_top(tree):
    return [target for node in tree.body if isinstance(node, ast.Assign) for target in node.targets]


def taken_names_of(tree):
    # The imports, classes, functions and values of a file's top: none of them is given another meaning.
    taken = [name.name for node in tree.body if isinstance(node, ast.ImportFrom) for name in node.names]
    taken += [node.name for node in tree.body if isinstance(node, (ast.ClassDef, ast.FunctionDef))]
    return taken + [target.id for target in names_of_top(tree)]


def drawn_from(tree):
    return [node.module.rpartition(".")[2] for node in tree.body if isinstance(node, ast.ImportFrom)]


class Language(unittest.TestCase):
    def setUp(self):
        self.paths = [path for path in sorted(PACKAGE.iterdir()) if path.name != "__pycache__"]
        self.texts = {path.stem: path.read_bytes().decode("ascii") for path in self.paths}
        self.trees = {name: ast.parse(text) for name, text in self.texts.items()}

    def test_files(self):
        self.assertEqual(faults_of_files(self.paths), [])

    def test_signs_and_sizes(self):
        for name, text in self.texts.items():
            self.assertEqual(faults_of_text(text), [], name)

    def test_tops(self):
        for name, tree in self.trees.items():
            self.assertEqual(faults_of_top(tree), [], name)

    def test_code(self):
        own_methods = methods_of(self.trees.values())
        for name, tree in self.trees.items():
            self.assertEqual(faults_of_code(tree, own_methods), [], name)

    def test_no_local_is_called_like_a_name_of_its_file(self):
        for name, tree in self.trees.items():
            self.assertEqual([each for each in locals_of(tree) if each in taken_names_of(tree)], [], name)

    def test_no_name_is_a_method_and_a_value(self):
        methods = methods_of(self.trees.values())
        self.assertEqual([each for each in values_of_objects(self.trees.values()) if each in methods + METHODS], [])

    def test_names_are_drawn_from_where_they_are_defined(self):
        for tree in self.trees.values():
            for node in tree.body:
                if isinstance(node, ast.ImportFrom):
                    source = self.trees[node.module.rpartition(".")[2]]
                    defined = [name for part in source.body for name in names_bound_by(part)]
                    for name in node.names:
                        self.assertIn(name.name, defined)

    def test_no_two_files_draw_from_one_another(self):
        left = {name: drawn_from(tree) for name, tree in self.trees.items()}
        while left:
            free = [name for name, sources in left.items() if not any(source in left for source in sources)]
            self.assertNotEqual(free, [], "files draw from one another: " + str(sorted(left)))
            left = {name: sources for name, sources in left.items() if name not in free}


class TheWalkItself(unittest.TestCase):
    def faults(self, code):
        tree = ast.parse(code)
        return faults_of_top(tree) + faults_of_code(tree, []) + faults_of_text(code)

    def test_names_with_another_meaning_are_found(self):
        code = "from bores.a import f\nK = 1\ndef g(f):\n    for g in f:\n        K = [h for h in g]\n"
        tree = ast.parse(code)
        self.assertEqual(sorted([name for name in locals_of(tree) if name in taken_names_of(tree)]), ["K", "f", "g"])
        tree = ast.parse("class A:\n    def f(self):\n        self.g = 1\n        self.f = self.h")
        self.assertEqual(sorted(values_of_objects([tree])), ["f", "g"])
        self.assertEqual(methods_of([tree]), ["f"])

    def test_plain_code_passes(self):
        for code in ("x = 1", "def f(a):\n    return [b for b in a if b is None]", "class A(ValueError):\n    pass"):
            self.assertEqual(self.faults(code), [], code)

    def test_code_outside_is_found(self):
        outside = (
            "import os",
            "from os import path",
            "from bores.words import is_name\nx = 1\nfrom bores.errors import NoText",
            "x = 1\nx = 2",
            "print(1)",
            "x = 1.5",
            "x = y = 1",
            "x = 'a %'",
            "def f(*a):\n    return a",
            "def f(a):\n    return a / 2",
            "def f(a):\n    assert a",
            "def f(a):\n    return {b for b in a}",
            "def f(a):\n    return any(b for b in a)",
            "def f(a):\n    return a is f",
            "def f(a):\n    return a.title()",
            "def f(a):\n    return chr(a)",
            "def f(a):\n    return type(a)",
            "def f(id):\n    return id",
            "def f(a):\n    len = a\n    return len",
            "def f(a):\n    _b = a\n    return a",
            "def f(a):\n    for b in a:\n        pass\n    else:\n        pass",
            "def f(a):\n    with a:\n        pass",
            "def f(a):" + "\n    f(a)" * 40,
            "x = '" + "a" * 120 + "'",
            "def f(a):\n\treturn a",
            "class A:\n    x = 1",
            "class A:\n    @f\n    def g(self):\n        pass",
        )
        for code in outside:
            self.assertNotEqual(self.faults(code), [], code)


if __name__ == "__main__":
    unittest.main()
