"""The mechanical ones among the rules of form, looked up in each file of the package."""

import ast
import builtins
import functools
import pathlib
import re
import unittest

PACKAGE = pathlib.Path(__file__).resolve().parent.parent / "riverdue"
FILES = sorted(PACKAGE.glob("*.py"))

# L17: within longer words either, for the last three.
WORDS = re.compile(
    r"\b(type|typing|typing_extensions|enum|Enum|IntEnum|StrEnum|Flag|IntFlag|Generic|Protocol|ABC|ABCMeta|namedtuple"
    r"|NamedTuple|TypedDict|TYPE_CHECKING|abstractmethod)\b|dataclass|overload|contextmanager"
)
# L6 and L7; the parts of a statement or an expression that ast tells of its own are among them.
NODES = """
    Module Expr Constant ImportFrom alias FunctionDef ClassDef arguments arg Return Assign AugAssign If While For Break
    Continue Pass Raise Try ExceptHandler Call keyword Attribute Subscript Slice Name Load Store List Tuple Dict Lambda
    BinOp UnaryOp BoolOp Compare IfExp ListComp comprehension JoinedStr FormattedValue And Or Not USub Invert Add Sub
    Mult FloorDiv Mod Pow LShift RShift BitAnd BitOr BitXor Eq NotEq Lt LtE Gt GtE Is IsNot In NotIn
""".split()
OWN_OF_PYTHON = """
    len range enumerate zip min max sum abs sorted reversed int str bool list tuple dict set frozenset isinstance ord
    repr any all divmod Exception ValueError TypeError KeyError IndexError LookupError ZeroDivisionError
    ArithmeticError OverflowError RuntimeError NotImplementedError AttributeError StopIteration
""".split()
METHODS = """
    append clear copy count endswith extend find get index insert isalnum isalpha isdigit islower isspace isupper items
    join keys ljust lower lstrip partition pop remove replace reverse rfind rjust rpartition rsplit rstrip setdefault
    split splitlines startswith strip update upper values zfill bit_length
""".split()
TWO_UNDERSCORES = ("__init__", "__eq__", "__repr__", "__str__", "__len__")


@functools.cache
def tree(path):
    return ast.parse(path.read_text(encoding="utf-8"))


def nodes(kinds):
    return [(path, node) for path in FILES for node in ast.walk(tree(path)) if isinstance(node, kinds)]


@functools.cache
def own_methods():
    return {part.name for path, node in nodes(ast.ClassDef) for part in node.body if isinstance(part, ast.FunctionDef)}


@functools.cache
def own_values():
    return {node.attr for path, node in nodes(ast.Attribute) if isinstance(node.ctx, ast.Store)}


def bound_names():
    found = {node.name for path, node in nodes((ast.FunctionDef, ast.ClassDef))}
    found |= {node.arg for path, node in nodes(ast.arg)}
    found |= {node.id for path, node in nodes(ast.Name) if isinstance(node.ctx, ast.Store)}
    found |= {node.name for path, node in nodes(ast.alias)}
    return found | {node.name for path, node in nodes(ast.ExceptHandler) if node.name}


def drawn_from(path):
    """The files of the package that a file imports from, in however many steps."""
    found = []
    waiting = [path]
    while waiting:
        for part in tree(waiting.pop()).body:
            if isinstance(part, ast.ImportFrom):
                drawn = PACKAGE / f"{part.module.split('.')[1]}.py"
                if drawn not in found:
                    found.append(drawn)
                    waiting.append(drawn)
    return found


def parameters_and_locals(path):
    for part in ast.walk(tree(path)):
        if isinstance(part, (ast.FunctionDef, ast.Lambda)):
            for inner in ast.walk(part):
                if isinstance(inner, ast.arg):
                    yield inner.arg
                if isinstance(inner, ast.Name) and isinstance(inner.ctx, ast.Store):
                    yield inner.id
                if isinstance(inner, ast.ExceptHandler) and inner.name:
                    yield inner.name


def defined_at_top(path):
    parts = tree(path).body
    found = [part.name for part in parts if isinstance(part, (ast.FunctionDef, ast.ClassDef))]
    return found + [part.targets[0].id for part in parts if isinstance(part, ast.Assign)]


class FormTest(unittest.TestCase):
    def test_files(self):
        names = [path.name for path in PACKAGE.iterdir() if path.name != "__pycache__"]
        self.assertIn("__init__.py", names)
        for name in names:
            self.assertRegex(name, r"^([a-z][a-z0-9_]*|__init__|__main__)\.py$")

    def test_signs_rows_and_words(self):
        for path in FILES:
            text = path.read_text(encoding="utf-8")
            with self.subTest(path.name):
                self.assertRegex(text, r"\A[ -~\n]*\Z")
                self.assertLessEqual(len(text.splitlines()), 400)
                self.assertLessEqual(max(len(row) for row in text.splitlines()), 120)
                self.assertIsNone(WORDS.search(text))

    def test_statements_and_expressions(self):
        for path, node in nodes(ast.AST):
            self.assertIn(node.__class__.__name__, NODES, f"{path.name}: {ast.dump(node)[:100]}")
        for path, node in nodes(ast.Assign):
            self.assertEqual(len(node.targets), 1)
        for path, node in nodes((ast.For, ast.While)):
            self.assertEqual(node.orelse, [])
        for path, node in nodes((ast.FunctionDef, ast.ClassDef)):
            self.assertEqual(node.decorator_list, [])
        for path, node in nodes(ast.Constant):
            self.assertIsInstance(node.value, (int, str, bool, None.__class__))
            self.assertNotIn("%", str(node.value))

    def test_imports(self):
        for path, node in nodes(ast.ImportFrom):
            self.assertEqual(node.level, 0)
            self.assertRegex(node.module, r"^riverdue\.[a-z_]+$")
            for alias in node.names:
                self.assertIn(alias.name, defined_at_top(PACKAGE / f"{node.module.split('.')[1]}.py"))

    def test_no_file_draws_from_itself(self):
        for path in FILES:
            self.assertNotIn(path, drawn_from(path))

    def test_no_local_is_called_like_a_class_or_an_import(self):
        for path in FILES:
            rows = [part for part in tree(path).body if isinstance(part, ast.ImportFrom)]
            known = {alias.name for row in rows for alias in row.names} | set(defined_at_top(path))
            self.assertEqual(sorted(known & set(parameters_and_locals(path))), [], path.name)

    def test_functions(self):
        for path, node in nodes(ast.FunctionDef):
            self.assertLessEqual(node.end_lineno - node.lineno + 1, 40, node.name)
            self.assertIsNone(node.args.vararg)
            self.assertIsNone(node.args.kwarg)
            self.assertEqual(node.args.kwonlyargs + node.args.posonlyargs, [])

    def test_names(self):
        bound = bound_names()
        for name in sorted((bound | own_values()) - set(TWO_UNDERSCORES)):
            self.assertRegex(name, r"^[A-Za-z][A-Za-z0-9_]*$")
        for path, node in nodes(ast.Name):
            self.assertIn(node.id, bound | set(OWN_OF_PYTHON))
        parameters = {node.arg for path, node in nodes(ast.arg)}
        locals_and_parameters = parameters | {n.id for path, n in nodes(ast.Name) if isinstance(n.ctx, ast.Store)}
        self.assertEqual(sorted(locals_and_parameters & set(dir(builtins))), [])

    def test_methods_and_values(self):
        self.assertEqual(sorted(own_methods() & own_values()), [])
        for path, node in nodes(ast.Attribute):
            self.assertIn(node.attr, own_methods() | own_values() | set(METHODS))
        free_methods = own_methods() - set(METHODS) - set(TWO_UNDERSCORES) - {"add", "discard"}
        free_values = own_values() - set("count index title find get join lower upper split strip copy add".split())
        for name in sorted(free_methods | free_values):
            for kind in (str, int, list, dict, set, bytes):
                self.assertFalse(hasattr(kind, name), name)

    def test_is_stands_beside_none_true_and_false(self):
        for path, node in nodes(ast.Compare):
            for sign, other in zip(node.ops, node.comparators):
                if isinstance(sign, (ast.Is, ast.IsNot)):
                    self.assertTrue(isinstance(other, ast.Constant) and other.value in (None, True, False))
