"""Some of the rules for the form of the package's files, and point 1: no clock, chance or files."""

import ast
import builtins
import pathlib
import re
import unittest

PACKAGE = pathlib.Path(__file__).resolve().parent.parent / "twoline"

OWN_NAMES = set(
    "len range enumerate zip min max sum abs sorted reversed int str bool list tuple dict set frozenset"
    " isinstance ord repr any all divmod Exception ValueError TypeError KeyError IndexError LookupError"
    " ZeroDivisionError ArithmeticError OverflowError RuntimeError NotImplementedError AttributeError"
    " StopIteration".split()
)
METHODS = set(
    "append clear copy count endswith extend find get index insert isalnum isalpha isdigit islower isspace"
    " isupper items join keys ljust lower lstrip partition pop remove replace reverse rfind rjust rpartition"
    " rsplit rstrip setdefault split splitlines startswith strip update upper values zfill bit_length".split()
)
WORDS = (
    r"\b(type|typing|typing_extensions|enum|Enum|IntEnum|StrEnum|Flag|IntFlag|Generic|Protocol|ABC|ABCMeta"
    r"|namedtuple|NamedTuple|TypedDict|TYPE_CHECKING|abstractmethod)\b|dataclass|overload|contextmanager"
)
STATEMENTS = (
    ast.FunctionDef, ast.ClassDef, ast.ImportFrom, ast.Assign, ast.AugAssign, ast.If, ast.While, ast.For,
    ast.Return, ast.Break, ast.Continue, ast.Pass, ast.Raise, ast.Try, ast.Expr,
)
EXPRESSIONS = (
    ast.Constant, ast.Name, ast.List, ast.Tuple, ast.Dict, ast.BinOp, ast.UnaryOp, ast.BoolOp, ast.Compare,
    ast.IfExp, ast.Call, ast.Attribute, ast.Subscript, ast.Slice, ast.ListComp, ast.JoinedStr,
    ast.FormattedValue, ast.Lambda, ast.Set,
)


def files():
    return sorted(path for path in PACKAGE.iterdir() if path.name != "__pycache__")


def nodes(path, kind=ast.AST):
    return [node for node in ast.walk(ast.parse(path.read_text())) if isinstance(node, kind)]


class FormTests(unittest.TestCase):
    def test_files(self):
        names = [path.name for path in files()]
        for name in ("__init__.py", "errors.py", "plane.py"):
            self.assertIn(name, names)
        for name in names:
            self.assertRegex(name, r"\A(__init__|[a-z][a-z0-9_]*)\.py\Z")

    def test_signs_words_and_sizes(self):
        for path in files():
            text = path.read_bytes().decode("ascii")
            self.assertRegex(text, r"\A[ -~\n]*\Z", path.name)
            self.assertIsNone(re.search(WORDS, text), path.name)
            rows = text.splitlines()
            self.assertLessEqual(len(rows), 400, path.name)
            self.assertLessEqual(max(len(row) for row in rows), 120, path.name)
            for node in nodes(path, ast.FunctionDef):
                self.assertLessEqual(node.end_lineno - node.lineno + 1, 40, node.name)

    def test_imports_are_of_the_package_alone(self):
        for path in files():
            for node in nodes(path, (ast.Import, ast.ImportFrom)):
                self.assertIsInstance(node, ast.ImportFrom, path.name)
                self.assertEqual(node.level, 0, path.name)
                self.assertRegex(node.module, r"\Atwoline\.[a-z_]+\Z", path.name)
                self.assertNotIn("*", [alias.name for alias in node.names])

    def test_statements_and_expressions(self):
        for path in files():
            for node in nodes(path, ast.stmt):
                self.assertIsInstance(node, STATEMENTS, f"{path.name}:{node.lineno}")
            for node in nodes(path, ast.expr):
                self.assertIsInstance(node, EXPRESSIONS, f"{path.name}:{node.lineno}")
            for node in nodes(path, ast.Constant):
                self.assertIsInstance(node.value, (int, str, type(None)), f"{path.name}:{node.lineno}")
            self.assertEqual(nodes(path, (ast.Div, ast.MatMult)), [], path.name)

    def test_names_of_pythons_own(self):
        refused = set(dir(builtins)) - OWN_NAMES
        for path in files():
            for node in nodes(path, ast.Name):
                self.assertNotIn(node.id, refused, f"{path.name}:{node.lineno}")
                self.assertFalse(node.id.startswith("_"), f"{path.name}:{node.lineno}")
            for node in nodes(path, ast.arg):
                self.assertNotIn(node.arg, dir(builtins), f"{path.name}:{node.lineno}")

    def test_methods(self):
        for path in files():
            own = {node.name for other in files() for node in nodes(other, ast.FunctionDef)}
            for node in nodes(path, ast.Call):
                if isinstance(node.func, ast.Attribute):
                    self.assertIn(node.func.attr, METHODS | own, f"{path.name}:{node.lineno}")

    def test_functions_and_classes(self):
        for path in files():
            for node in nodes(path, ast.FunctionDef):
                given = node.args
                self.assertEqual(node.decorator_list, [], node.name)
                self.assertEqual(given.posonlyargs + given.kwonlyargs, [], node.name)
                self.assertIsNone(given.vararg or given.kwarg, node.name)
            for node in nodes(path, ast.ClassDef):
                self.assertEqual(node.decorator_list + node.keywords, [], node.name)
                self.assertLessEqual(len(node.bases), 1, node.name)
                for row in node.body:
                    self.assertIsInstance(row, (ast.FunctionDef, ast.Pass), node.name)


if __name__ == "__main__":
    unittest.main()
