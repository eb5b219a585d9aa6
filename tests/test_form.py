"""Some of the rules for the form of the package's files, and point 1: no clock, chance or files."""

import ast
import builtins
import pathlib
import re
import unittest

PACKAGE = pathlib.Path(__file__).resolve().parent.parent / "twoline"

OWN_NAMES = set(
    "len range enumerate zip min max sum abs sorted reversed int str bool list tuple dict set frozenset"
    " isinstance ord repr any all divmod Exception ValueError TypeError KeyError IndexError LookupError"
    " ZeroDivisionError ArithmeticError OverflowError RuntimeError NotImplementedError AttributeError"
    " StopIteration".split()
)
METHODS = set(
    "append clear copy count endswith extend find get index insert isalnum isalpha isdigit islower isspace"
    " isupper items join keys ljust lower lstrip partition pop remove replace reverse rfind rjust rpartition"
    " rsplit rstrip setdefault split splitlines startswith strip update upper values zfill bit_length".split()
)
WORDS = (
    r"\b(type|typing|typing_extensions|enum|Enum|IntEnum|StrEnum|Flag|IntFlag|Generic|Protocol|ABC|ABCMeta"
    r"|namedtuple|NamedTuple|TypedDict|TYPE_CHECKING|abstractmethod)\b|dataclass|overload|contextmanager"
)
STATEMENTS = (
    ast.FunctionDef, ast.ClassDef, ast.ImportFrom, ast.Assign, ast.AugAssign, ast.If, ast.While, ast.For,
    ast.Return, ast.Break, ast.Continue, ast.Pass, ast.Raise, ast.Try, ast.Expr,
)
EXPRESSIONS = (
    ast.Constant, ast.Name, ast.List, ast.Tuple, ast.Dict, ast.BinOp, ast.UnaryOp, ast.BoolOp, ast.Compare,
    ast.IfExp, ast.Call, ast.Attribute, ast.Subscript, ast.Slice, ast.ListComp, ast.JoinedStr,
    ast.FormattedValue, ast.Lambda, ast.Set,
)
KEYWORDS = set("key reverse default start strict".split())
WALKS = set("zip enumerate reversed range items keys values".split())
WALKERS = set("list tuple dict sorted sum any all enumerate zip min max join".split())
UNUSED = set(
    "register mro elements open input version_info with_traceback add_note attrgetter breakpoint builtins compile"
    " copyright credits delattr dir eval exec exit gc getattr globals hasattr help id importlib license locals"
    " methodcaller os quit setattr super type vars sys format format_map".split()
)


def files():
    return sorted(path for path in PACKAGE.iterdir() if path.name != "__pycache__")


def nodes(path, kind=ast.AST):
    return [node for node in ast.walk(ast.parse(path.read_text())) if isinstance(node, kind)]


def called(node):
    """The name that a call calls, or None where the node is no call."""
    if not isinstance(node, ast.Call):
        return None
    return node.func.attr if isinstance(node.func, ast.Attribute) else getattr(node.func, "id", None)


def with_outer(path):
    """Each node beside its next outer one."""
    return [(inner, outer) for outer in nodes(path) for inner in ast.iter_child_nodes(outer)]


def top_names(path):
    found = []
    for node in ast.parse(path.read_text()).body:
        if isinstance(node, (ast.FunctionDef, ast.ClassDef)):
            found.append(node.name)
        elif isinstance(node, ast.ImportFrom):
            found.extend(alias.asname or alias.name for alias in node.names)
        elif isinstance(node, ast.Assign):
            found.extend(target.id for target in node.targets)
    return found


def drawn_from(path):
    return [node.module.split(".")[1] for node in nodes(path, ast.ImportFrom)]


class FormTests(unittest.TestCase):
    def test_files(self):
        names = [path.name for path in files()]
        for name in ("__init__.py", "errors.py", "plane.py", "lines.py", "notes.py"):
            self.assertIn(name, names)
        for name in names:
            self.assertRegex(name, r"\A(__init__|[a-z][a-z0-9_]*)\.py\Z")

    def test_signs_words_and_sizes(self):
        for path in files():
            text = path.read_bytes().decode("ascii")
            self.assertRegex(text, r"\A[ -~\n]*\Z", path.name)
            self.assertIsNone(re.search(WORDS, text), path.name)
            rows = text.splitlines()
            self.assertLessEqual(len(rows), 400, path.name)
            self.assertLessEqual(max(len(row) for row in rows), 120, path.name)
            for node in nodes(path, ast.FunctionDef):
                self.assertLessEqual(node.end_lineno - node.lineno + 1, 40, node.name)

    def test_imports_are_of_the_package_alone(self):
        for path in files():
            for node in nodes(path, (ast.Import, ast.ImportFrom)):
                self.assertIsInstance(node, ast.ImportFrom, path.name)
                self.assertEqual(node.level, 0, path.name)
                self.assertRegex(node.module, r"\Atwoline\.[a-z_]+\Z", path.name)
                self.assertNotIn("*", [alias.name for alias in node.names])

    def test_statements_and_expressions(self):
        for path in files():
            for node in nodes(path, ast.stmt):
                self.assertIsInstance(node, STATEMENTS, f"{path.name}:{node.lineno}")
            for node in nodes(path, ast.expr):
                self.assertIsInstance(node, EXPRESSIONS, f"{path.name}:{node.lineno}")
            for node in nodes(path, ast.Constant):
                self.assertIsInstance(node.value, (int, str, type(None)), f"{path.name}:{node.lineno}")
            self.assertEqual(nodes(path, (ast.Div, ast.MatMult)), [], path.name)

    def test_names_of_pythons_own(self):
        refused = set(dir(builtins)) - OWN_NAMES
        for path in files():
            for node in nodes(path, ast.Name):
                self.assertNotIn(node.id, refused, f"{path.name}:{node.lineno}")
                self.assertFalse(node.id.startswith("_"), f"{path.name}:{node.lineno}")
            for node in nodes(path, ast.arg):
                self.assertNotIn(node.arg, dir(builtins), f"{path.name}:{node.lineno}")

    def test_methods(self):
        for path in files():
            own = {node.name for other in files() for node in nodes(other, ast.FunctionDef)}
            for node in nodes(path, ast.Call):
                if isinstance(node.func, ast.Attribute):
                    self.assertIn(node.func.attr, METHODS | own, f"{path.name}:{node.lineno}")

    def test_functions_and_classes(self):
        for path in files():
            for node in nodes(path, ast.FunctionDef):
                given = node.args
                self.assertEqual(node.decorator_list, [], node.name)
                self.assertEqual(given.posonlyargs + given.kwonlyargs, [], node.name)
                self.assertIsNone(given.vararg or given.kwarg, node.name)
            for node in nodes(path, ast.ClassDef):
                self.assertEqual(node.decorator_list + node.keywords, [], node.name)
                self.assertLessEqual(len(node.bases), 1, node.name)
                for row in node.body:
                    self.assertIsInstance(row, (ast.FunctionDef, ast.Pass), node.name)

    def test_the_top_of_a_module(self):
        for path in files():
            body = ast.parse(path.read_text()).body
            self.assertIsInstance(body[0].value.value, str, path.name)
            for node in body[1:]:
                self.assertIsInstance(node, (ast.ImportFrom, ast.FunctionDef, ast.ClassDef, ast.Assign), path.name)
                if isinstance(node, ast.Assign):
                    self.assertIsInstance(ast.literal_eval(node.value), (int, str, tuple), path.name)
            names = top_names(path)
            self.assertEqual(len(names), len(set(names)), path.name)

    def test_imports_are_from_the_defining_file_and_in_no_ring(self):
        paths = {path.stem: path for path in files()}
        for path in files():
            for node in nodes(path, ast.ImportFrom):
                source = paths[node.module.split(".")[1]]
                drawn = {alias.name for row in nodes(source, ast.ImportFrom) for alias in row.names}
                own = set(top_names(source)) - drawn
                for alias in node.names:
                    self.assertIn(alias.name, own, path.name)
        left = {name: drawn_from(path) for name, path in paths.items()}
        while left:
            free = [name for name, sources in left.items() if not set(sources) & set(left)]
            self.assertNotEqual(free, [], "files that draw from one another")
            left = {name: sources for name, sources in left.items() if name not in free}

    def test_names_given_in_functions(self):
        for path in files():
            tops = set(top_names(path))
            for node in nodes(path, (ast.Name, ast.arg)):
                name = node.arg if isinstance(node, ast.arg) else node.id
                self.assertNotIn(name, UNUSED, f"{path.name}:{node.lineno}")
                self.assertRegex(name, r"\A[A-Za-z][A-Za-z0-9_]*\Z", f"{path.name}:{node.lineno}")
            for function in nodes(path, ast.FunctionDef):
                given = {node.arg for node in ast.walk(function) if isinstance(node, ast.arg)}
                for node in ast.walk(function):
                    if isinstance(node, ast.Name) and isinstance(node.ctx, ast.Store):
                        given.add(node.id)
                self.assertEqual(given & (tops | set(dir(builtins))), set(), f"{path.name}:{function.name}")

    def test_assignments_loops_and_comprehensions(self):
        for path in files():
            for node in nodes(path, ast.Assign):
                self.assertEqual(len(node.targets), 1, f"{path.name}:{node.lineno}")
                self.assertIsInstance(node.targets[0], (ast.Name, ast.Subscript, ast.Attribute), path.name)
            for node in nodes(path, (ast.For, ast.While)):
                self.assertEqual(node.orelse, [], f"{path.name}:{node.lineno}")
            for node in nodes(path, ast.ListComp):
                self.assertEqual(len(node.generators), 1, f"{path.name}:{node.lineno}")
                self.assertLessEqual(len(node.generators[0].ifs), 1, f"{path.name}:{node.lineno}")

    def test_is_annotations_keywords_and_texts(self):
        for path in files():
            for node in nodes(path, ast.Compare):
                if any(isinstance(sign, (ast.Is, ast.IsNot)) for sign in node.ops):
                    self.assertIn(ast.unparse(node.comparators[0]), ("None", "True", "False"), path.name)
            for node in nodes(path, ast.FunctionDef):
                self.assertIsNone(node.returns, node.name)
            for node in nodes(path, ast.arg):
                self.assertIsNone(node.annotation, node.arg)
            for node in nodes(path, ast.keyword):
                self.assertIn(node.arg, KEYWORDS, path.name)
            for node in nodes(path, ast.Constant):
                self.assertNotIn("%", str(node.value), f"{path.name}:{node.lineno}")

    def test_walks_and_sets_are_used_on_the_spot(self):
        for path in files():
            for inner, outer in with_outer(path):
                if called(inner) in WALKS:
                    walked = isinstance(outer, (ast.For, ast.comprehension)) and outer.iter is inner
                    self.assertTrue(walked or called(outer) in WALKERS, f"{path.name}:{inner.lineno}")
                if called(inner) == "set":
                    asked = called(outer) in ("len", "sorted") or isinstance(outer, (ast.Compare, ast.BinOp))
                    self.assertTrue(asked, f"{path.name}:{inner.lineno}")


if __name__ == "__main__":
    unittest.main()
