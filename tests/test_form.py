"""The form of the package's own files: the small part of Python that it keeps to."""

import ast
import builtins
import pathlib
import re
import unittest

PACKAGE = pathlib.Path(__file__).resolve().parent.parent / "measures"

NODES = set("""
    Module Expr Constant ImportFrom alias FunctionDef arguments arg ClassDef Lambda Return Assign AugAssign If While For
    Break Continue Pass Raise Try ExceptHandler Call Attribute Name Subscript Slice ListComp comprehension BinOp UnaryOp
    BoolOp Compare IfExp List Tuple Dict JoinedStr FormattedValue keyword Load Store Add Sub Mult FloorDiv Mod Pow
    LShift RShift BitOr BitXor BitAnd Invert Not UAdd USub And Or Eq NotEq Lt LtE Gt GtE Is IsNot In NotIn
""".split())
OWN_NAMES = set("""
    len range enumerate zip min max sum abs sorted reversed int str bool list tuple dict set frozenset isinstance ord
    repr any all divmod Exception ValueError TypeError KeyError IndexError LookupError ZeroDivisionError
    ArithmeticError OverflowError RuntimeError NotImplementedError StopIteration
""".split())
METHODS = set("""
    append clear copy count endswith extend find get index insert isalnum isalpha isdigit islower isspace isupper items
    join keys ljust lower lstrip partition pop remove replace reverse rfind rjust rpartition rsplit rstrip setdefault
    split splitlines startswith strip update upper values zfill bit_length
""".split())
WORDS = re.compile(r"\b(type|typing|typing_extensions|enum|Enum|IntEnum|StrEnum|Flag|IntFlag|Generic|Protocol|ABC|ABCMeta"
                   r"|namedtuple|NamedTuple|TypedDict|TYPE_CHECKING|abstractmethod)\b|dataclass|overload|contextmanager")


def bound_names(tree):
    for node in ast.walk(tree):
        if isinstance(node, ast.Name) and isinstance(node.ctx, ast.Store):
            yield node.id, node.lineno
        elif isinstance(node, ast.arg):
            yield node.arg, node.lineno
        elif isinstance(node, (ast.FunctionDef, ast.ClassDef)):
            yield node.name, node.lineno


class FormTest(unittest.TestCase):
    def setUp(self):
        self.files = sorted(path for path in PACKAGE.iterdir() if path.name != "__pycache__")
        self.trees = [(path.name, ast.parse(path.read_text())) for path in self.files]

    def test_only_python_files(self):
        for path in self.files:
            self.assertRegex(path.name, r"^[a-z0-9_]+\.py$")
        self.assertIn("__init__.py", [path.name for path in self.files])

    def test_signs_sizes_and_words(self):
        for path in self.files:
            text = path.read_text()
            self.assertRegex(text, r"^[ -~\n]*\Z", path.name)
            lines = text.split("\n")
            self.assertLessEqual(len(lines), 400, path.name)
            for number, line in enumerate(lines, start=1):
                self.assertLessEqual(len(line), 120, (path.name, number))
                self.assertIsNone(WORDS.search(line), (path.name, number))

    def test_statements_and_expressions(self):
        for name, tree in self.trees:
            for node in ast.walk(tree):
                place = (name, getattr(node, "lineno", 0))
                self.assertIn(node.__class__.__name__, NODES, place)
                if isinstance(node, ast.FunctionDef):
                    self.assertLessEqual(node.end_lineno - node.lineno + 1, 40, place)
                    self.assertFalse(node.decorator_list, place)
                if isinstance(node, (ast.For, ast.While)):
                    self.assertFalse(node.orelse, place)
                if isinstance(node, ast.Assign):
                    self.assertEqual(len(node.targets), 1, place)
                if isinstance(node, ast.ListComp):
                    self.assertEqual(len(node.generators), 1, place)
                    self.assertLessEqual(len(node.generators[0].ifs), 1, place)
                if isinstance(node, ast.Constant):
                    self.assertNotIsInstance(node.value, (float, bytes, complex), place)
                if isinstance(node, ast.ImportFrom):
                    self.assertEqual(node.level, 0, place)
                    self.assertTrue(node.module.startswith("measures."), place)

    def test_names(self):
        for name, tree in self.trees:
            top = {node.name for node in tree.body if isinstance(node, (ast.FunctionDef, ast.ClassDef))}
            imported = {alias.name for node in tree.body if isinstance(node, ast.ImportFrom) for alias in node.names}
            for bound, line in bound_names(tree):
                if bound != "__init__":
                    self.assertFalse(hasattr(builtins, bound), (name, line, bound))
                    self.assertFalse(bound.startswith("_"), (name, line, bound))
                self.assertNotIn(bound, imported, (name, line))
            known = top | imported | {bound for bound, line in bound_names(tree)} | OWN_NAMES
            for node in ast.walk(tree):
                if isinstance(node, ast.Name):
                    self.assertIn(node.id, known, (name, node.lineno))

    def test_methods(self):
        own = {node.name for name, tree in self.trees for node in ast.walk(tree) if isinstance(node, ast.FunctionDef)}
        for name, tree in self.trees:
            for node in ast.walk(tree):
                if isinstance(node, ast.Call) and isinstance(node.func, ast.Attribute):
                    self.assertIn(node.func.attr, METHODS | own, (name, node.lineno))


if __name__ == "__main__":
    unittest.main()
