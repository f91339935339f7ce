"""Holds the package's files to the plainest rules of their form, so that a slip is seen early."""

import ast
import builtins
import re
import unittest
from pathlib import Path

PACKAGE = Path(__file__).resolve().parent.parent / "tablefolk"
FILES = sorted(path for path in PACKAGE.rglob("*") if path.is_file() and "__pycache__" not in path.parts)
ALLOWED_NODES = (
    "Module Import ImportFrom alias FunctionDef arguments arg ClassDef Pass Return Assign AugAssign If While For Break "
    "Continue Raise Try ExceptHandler Expr Call Name Attribute Subscript Slice Constant List Tuple Dict Set BinOp "
    "UnaryOp BoolOp Compare IfExp ListComp comprehension JoinedStr FormattedValue Lambda keyword Load Store Add Sub "
    "Mult FloorDiv Mod Pow LShift RShift BitOr BitAnd BitXor Invert USub UAdd Not And Or Eq NotEq Lt LtE Gt GtE Is "
    "IsNot In NotIn"
).split()
ALLOWED_BUILTINS = (
    "len range enumerate zip min max sum abs sorted reversed int str bool list tuple dict set frozenset isinstance ord "
    "repr any all divmod Exception ValueError TypeError KeyError IndexError LookupError ZeroDivisionError "
    "ArithmeticError OverflowError RuntimeError NotImplementedError AttributeError StopIteration"
).split()
ALLOWED_METHODS = (
    "append clear copy count endswith extend find get index insert isalnum isalpha isdigit islower isspace isupper "
    "items join keys ljust lower lstrip partition pop remove replace reverse rfind rjust rpartition rsplit rstrip "
    "setdefault split splitlines startswith strip update upper values zfill bit_length"
).split()
UNUSED_WORDS = (
    "type typing typing_extensions enum Enum IntEnum StrEnum Flag IntFlag Generic Protocol ABC ABCMeta namedtuple "
    "NamedTuple TypedDict TYPE_CHECKING abstractmethod"
).split()
UNUSED_NAMES = (
    "register mro elements open input version_info with_traceback add_note attrgetter methodcaller gc os sys importlib "
    "builtins"
).split()


def bound_names(tree):
    for node in ast.walk(tree):
        if isinstance(node, (ast.FunctionDef, ast.ClassDef)):
            yield node.name
        elif isinstance(node, ast.arg):
            yield node.arg
        elif isinstance(node, ast.Name) and isinstance(node.ctx, ast.Store):
            yield node.id


def names_of_the_top(tree):
    for each in tree.body:
        if isinstance(each, (ast.FunctionDef, ast.ClassDef)):
            yield each.name
        elif isinstance(each, ast.Assign):
            yield each.targets[0].id


def texts():
    return [path.read_bytes().decode("ascii") for path in FILES]


def trees():
    return [ast.parse(text) for text in texts()]


class Form(unittest.TestCase):
    def test_files(self):
        self.assertIn(PACKAGE / "__init__.py", FILES)
        for path in FILES:
            self.assertRegex(path.name, r"^(__init__|[a-z][a-z0-9_]*)\.py$")

    def test_sizes_and_signs(self):
        for text in texts():
            rows = text.split("\n")
            self.assertTrue(all(sign == "\n" or " " <= sign <= "~" for sign in text))
            self.assertLessEqual(len(rows), 400)
            self.assertLessEqual(max(map(len, rows)), 120)
            for node in ast.walk(ast.parse(text)):
                if isinstance(node, ast.FunctionDef):
                    self.assertLessEqual(node.end_lineno - node.lineno + 1, 40, node.name)

    def test_words(self):
        for text in texts():
            words = re.findall(r"\w+", text)
            self.assertEqual([word for word in words if word in UNUSED_WORDS], [])
            self.assertIsNone(re.search("dataclass|overload|contextmanager", text))

    def test_nodes(self):
        for tree in trees():
            for node in ast.walk(tree):
                self.assertIn(node.__class__.__name__, ALLOWED_NODES)
                if isinstance(node, ast.Constant):
                    self.assertIsInstance(node.value, (int, str, bool, None.__class__))
                if isinstance(node, ast.ListComp):
                    self.assertEqual(len(node.generators), 1)
                if isinstance(node, (ast.For, ast.While)):
                    self.assertEqual(node.orelse, [])
                if isinstance(node, (ast.FunctionDef, ast.ClassDef)):
                    self.assertEqual(node.decorator_list, [])

    def test_names(self):
        for tree in trees():
            bound = list(bound_names(tree))
            imported = [name.name for node in ast.walk(tree) if isinstance(node, ast.ImportFrom) for name in node.names]
            for name in bound:
                self.assertFalse(name.startswith("_"), name)
                self.assertFalse(hasattr(builtins, name), name)
                self.assertNotIn(name, UNUSED_NAMES + imported)
            for node in ast.walk(tree):
                if isinstance(node, ast.Name):
                    self.assertIn(node.id, bound + imported + ALLOWED_BUILTINS)
                if isinstance(node, ast.Attribute):
                    self.assertIn(node.attr, ALLOWED_METHODS)

    def test_imports(self):
        for tree in trees():
            for node in ast.walk(tree):
                self.assertNotIsInstance(node, ast.Import)
                if isinstance(node, ast.ImportFrom):
                    self.assertIn(node, tree.body)
                    self.assertEqual(node.level, 0)
                    self.assertRegex(node.module, r"^tablefolk\.[a-z]+$")
                    source = ast.parse((PACKAGE / (node.module.split(".")[1] + ".py")).read_text())
                    defined = list(names_of_the_top(source))
                    for name in node.names:
                        self.assertIn(name.name, defined)
                        self.assertIsNone(name.asname)


if __name__ == "__main__":
    unittest.main()
