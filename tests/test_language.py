"""The rules of the language that can be seen from one file of the package, by their numbers.

This sees less than the rules say: a file that passes here may still be outside them.
"""

import ast
import builtins
import pathlib
import re
import unittest

PACKAGE = pathlib.Path(__file__).resolve().parent.parent / "wireparley"

OWN_NAMES = set("""
len range enumerate zip min max sum abs sorted reversed int str bool list tuple dict set frozenset isinstance
ord repr any all divmod Exception ValueError TypeError KeyError IndexError LookupError ZeroDivisionError
ArithmeticError OverflowError RuntimeError NotImplementedError AttributeError StopIteration
""".split())
METHODS = set("""
append clear copy count endswith extend find get index insert isalnum isalpha isdigit islower isspace isupper
items join keys ljust lower lstrip partition pop remove replace reverse rfind rjust rpartition rsplit rstrip
setdefault split splitlines startswith strip update upper values zfill bit_length add discard __init__
""".split())
PYTHONS_METHODS = set().union(*[dir(kind) for kind in (str, int, list, tuple, dict, set, frozenset, bytes)])
STATEMENTS = (
    ast.Assign, ast.AugAssign, ast.If, ast.While, ast.For, ast.Return, ast.Break, ast.Continue, ast.Pass, ast.Raise,
    ast.Try, ast.Expr, ast.FunctionDef, ast.ClassDef, ast.ImportFrom,
)
NO_EXPRESSIONS = (
    ast.SetComp, ast.DictComp, ast.GeneratorExp, ast.NamedExpr, ast.Starred, ast.Await, ast.Yield, ast.YieldFrom,
)
DOUBLE = ("__init__", "__eq__", "__repr__", "__str__", "__len__", "__all__", "__version__")
NO_WORDS = re.compile(
    r"\b(type|typing|typing_extensions|enum|Enum|IntEnum|StrEnum|Flag|IntFlag|Generic|Protocol|ABC|ABCMeta|namedtuple"
    r"|NamedTuple|TypedDict|TYPE_CHECKING|abstractmethod)\b|dataclass|overload|contextmanager"
)
PLAIN_VALUES = (ast.Constant, ast.List, ast.Tuple, ast.Dict, ast.UnaryOp, ast.Name)


def files():
    return sorted(path for path in PACKAGE.rglob("*") if "__pycache__" not in path.parts and path.is_file())


def bound_names(tree):
    for node in ast.walk(tree):
        if isinstance(node, ast.Name) and isinstance(node.ctx, ast.Store):
            yield node.lineno, node.id
        if isinstance(node, ast.arg):
            yield node.lineno, node.arg
        if isinstance(node, ast.ExceptHandler) and node.name:
            yield node.lineno, node.name
        if isinstance(node, (ast.FunctionDef, ast.ClassDef)):
            yield node.lineno, node.name


class Faults:

    def __init__(self, path):
        self.path = path
        self.text = path.read_text(encoding="utf-8")
        self.tree = ast.parse(self.text)
        self.found = []

    def fault(self, rule, line, words=""):
        self.found.append(f"{rule} {self.path.name}:{line} {words}".rstrip())

    def all(self):
        self.lines()
        self.top()
        self.names()
        self.classes()
        for node in ast.walk(self.tree):
            self.statement(node)
            self.expression(node)
            self.definition(node)
        return self.found

    def lines(self):
        rows = self.text.split("\n")
        if len(rows) > 401:
            self.fault("L10", len(rows))
        for number, row in enumerate(rows, start=1):
            if len(row) > 120:
                self.fault("L10", number)
            if re.search(r"[^ -~]", row):
                self.fault("L14", number)
            if NO_WORDS.search(row):
                self.fault("L17", number)

    def top(self):
        names = []
        for k, node in enumerate(self.tree.body):
            if isinstance(node, (ast.FunctionDef, ast.ClassDef)):
                names.append(node.name)
            elif isinstance(node, ast.ImportFrom):
                names.extend(alias.asname or alias.name for alias in node.names)
                own = (node.module or "").startswith("wireparley.")
                if node.level or not own or any(alias.name == "*" for alias in node.names):
                    self.fault("L2", node.lineno)
            elif isinstance(node, ast.Assign):
                names.extend(target.id for target in node.targets if isinstance(target, ast.Name))
                if not isinstance(node.value, PLAIN_VALUES):
                    self.fault("L3", node.lineno)
            elif not (k == 0 and isinstance(node, ast.Expr) and isinstance(node.value, ast.Constant)):
                self.fault("L3", node.lineno)
        for name in set(names):
            if names.count(name) > 1:
                self.fault("L15", 1, name)

    def names(self):
        for line, name in bound_names(self.tree):
            if name.startswith("_") and name not in DOUBLE:
                self.fault("L12", line, name)
            if name in dir(builtins) and not name.startswith("__"):
                self.fault("L15", line, name)

    def classes(self):
        """No name within a def is that of a class or an import; of a class no more is asked than its __init__."""
        drawn = [alias.name for node in self.tree.body if isinstance(node, ast.ImportFrom) for alias in node.names]
        drawn += [node.name for node in self.tree.body if isinstance(node, ast.ClassDef)]
        for node in ast.walk(self.tree):
            if isinstance(node, ast.arg) and node.arg in drawn:
                self.fault("L15", node.lineno, node.arg)
            if isinstance(node, ast.Name) and isinstance(node.ctx, ast.Store) and node.id in drawn:
                self.fault("L15", node.lineno, node.id)
            if isinstance(node, ast.Attribute) and isinstance(node.value, ast.Name) and node.attr != "__init__":
                if node.value.id in drawn and re.match("[A-Z][a-z]", node.value.id):
                    self.fault("L18", node.lineno, node.attr)

    def statement(self, node):
        if isinstance(node, ast.stmt) and not isinstance(node, STATEMENTS):
            self.fault("L6", node.lineno)
        if isinstance(node, ast.Assign) and len(node.targets) != 1:
            self.fault("L6", node.lineno)
        if isinstance(node, (ast.For, ast.While)) and node.orelse:
            self.fault("L6", node.lineno)
        if isinstance(node, ast.Try) and node.finalbody:
            self.fault("L6", node.lineno)
        if isinstance(node, ast.ExceptHandler) and node.type is None:
            self.fault("L6", node.lineno)

    def expression(self, node):
        if isinstance(node, NO_EXPRESSIONS) or isinstance(node, ast.BinOp) and isinstance(node.op, (ast.Div, ast.MatMult)):
            self.fault("L7", node.lineno)
        if isinstance(node, ast.Constant) and isinstance(node.value, (float, bytes, complex)):
            self.fault("L7", node.lineno)
        if isinstance(node, ast.Constant) and isinstance(node.value, str) and "%" in node.value:
            self.fault("L27", node.lineno)
        if isinstance(node, ast.ListComp) and (len(node.generators) != 1 or len(node.generators[0].ifs) > 1):
            self.fault("L7", node.lineno)
        if isinstance(node, ast.Name) and node.id in dir(builtins) and node.id not in OWN_NAMES:
            self.fault("L8", node.lineno, node.id)
        if isinstance(node, ast.Attribute) and node.attr in PYTHONS_METHODS and node.attr not in METHODS:
            self.fault("L25", node.lineno, node.attr)
        if isinstance(node, ast.Compare):
            for op, side in zip(node.ops, node.comparators):
                constant = isinstance(side, ast.Constant) and side.value in (None, True, False)
                if isinstance(op, (ast.Is, ast.IsNot)) and not constant:
                    self.fault("L20", node.lineno)

    def definition(self, node):
        if isinstance(node, (ast.FunctionDef, ast.ClassDef)) and node.decorator_list:
            self.fault("L4", node.lineno)
        if isinstance(node, ast.FunctionDef):
            if node.end_lineno - node.lineno + 1 > 40:
                self.fault("L10", node.lineno)
            told = node.args
            if told.vararg or told.kwarg or told.kwonlyargs or told.posonlyargs:
                self.fault("L4", node.lineno)
        if isinstance(node, ast.ClassDef):
            if len(node.bases) > 1 or node.keywords:
                self.fault("L5", node.lineno)
            for part in node.body:
                if not isinstance(part, (ast.FunctionDef, ast.Pass, ast.Expr)):
                    self.fault("L5", part.lineno)


class LanguageTest(unittest.TestCase):

    def test_files(self):
        self.assertIn(PACKAGE / "__init__.py", files())
        for path in files():
            self.assertRegex(path.name, r"^[a-z0-9_]+\.py$")

    def test_rules(self):
        for path in files():
            with self.subTest(path.name):
                self.assertEqual(Faults(path).all(), [])

    def test_no_name_is_a_method_here_and_a_value_there(self):
        methods, values = set(), set()
        for path in files():
            for node in ast.walk(ast.parse(path.read_text(encoding="utf-8"))):
                if isinstance(node, ast.ClassDef):
                    methods |= {part.name for part in node.body if isinstance(part, ast.FunctionDef)}
                if isinstance(node, ast.Attribute) and isinstance(node.ctx, ast.Store):
                    values.add(node.attr)
        self.assertEqual(sorted(methods & values), [], "L18")
        self.assertEqual(sorted((methods | values) & PYTHONS_METHODS - {"__init__"}), [], "L26")

    def test_no_two_files_draw_from_one_another(self):
        drawn = {}
        for path in files():
            tree = ast.parse(path.read_text(encoding="utf-8"))
            rows = [node for node in tree.body if isinstance(node, ast.ImportFrom)]
            drawn[f"wireparley.{path.stem}"] = {node.module for node in rows}
        while drawn:
            free = [name for name, others in drawn.items() if not others & set(drawn)]
            self.assertTrue(free, f"a ring among {sorted(drawn)}")
            for name in free:
                drawn.pop(name)


if __name__ == "__main__":
    unittest.main()
