"""A part of LANGUAGE.md that can be seen file by file; the rest of its rules is for the reader."""

import ast
import builtins
import re
import unittest
from pathlib import Path

FOLDER = Path(__file__).resolve().parent.parent / "notefall"
FILES = sorted(path for path in FOLDER.rglob("*") if path.is_file() and "__pycache__" not in path.parts)

TWO_UNDERSCORES = {"__init__", "__eq__", "__repr__", "__str__", "__len__"}
OWN_NAMES = set(
    "len range enumerate zip min max sum abs sorted reversed int str bool bytes list tuple dict set frozenset "
    "isinstance ord repr any all divmod Exception ValueError TypeError KeyError IndexError LookupError "
    "ZeroDivisionError ArithmeticError OverflowError RuntimeError NotImplementedError AttributeError "
    "StopIteration object".split()
)
WORDS = re.compile(
    r"\b(type|typing|typing_extensions|enum|Enum|IntEnum|StrEnum|Flag|IntFlag|Generic|Protocol|ABC|ABCMeta|namedtuple"
    r"|NamedTuple|TypedDict|TYPE_CHECKING|abstractmethod)\b|dataclass|overload|contextmanager"
)
OUT = (
    ast.With, ast.Match, ast.Global, ast.Nonlocal, ast.Yield, ast.YieldFrom, ast.Await, ast.AsyncFunctionDef,
    ast.AsyncFor, ast.AsyncWith, ast.GeneratorExp, ast.NamedExpr, ast.Div, ast.MatMult, ast.Import, ast.TryStar,
)


def faults(kinds, wrong):
    """The places of all parts of these kinds that are wrong."""
    found = []
    for path in FILES:
        for node in ast.walk(ast.parse(path.read_text(encoding="ascii"))):
            if isinstance(node, kinds) and wrong(node):
                found.append(f"{path.name}:{getattr(node, 'lineno', 0)}: {ast.dump(node)}")
    return found


def wrong_constant(node):
    return isinstance(node.value, (float, complex)) or isinstance(node.value, str) and "%" in node.value


def wrong_is(node):
    sides = [node.left] + node.comparators
    for at, sign in enumerate(node.ops):
        if isinstance(sign, (ast.Is, ast.IsNot)):
            if not any(isinstance(side, ast.Constant) for side in sides[at:at + 2]):
                return True
    return False


def wrong_import(node):
    own = re.fullmatch(r"__future__|notefall\.[a-z0-9_]+", node.module or "")
    return node.level > 0 or not own or "*" in [drawn.name for drawn in node.names]


def wrong_parameters(node):
    return bool(node.args.vararg or node.args.kwarg or node.args.posonlyargs)


def wrong_def(node):
    return bool(node.decorator_list) or node.end_lineno - node.lineno + 1 > 40


def wrong_class(node):
    rows = all(isinstance(row, (ast.FunctionDef, ast.Pass, ast.Expr)) for row in node.body)
    return bool(node.decorator_list or node.keywords) or len(node.bases) > 1 or not rows


def wrong_name(node):
    name = next(getattr(node, field) for field in ("id", "arg", "attr", "name") if hasattr(node, field))
    if name.startswith("_"):
        return name not in TWO_UNDERSCORES
    return isinstance(node, (ast.Name, ast.arg)) and name not in OWN_NAMES and hasattr(builtins, name)


class Language(unittest.TestCase):
    def test_files(self):
        self.assertIn(FOLDER / "__init__.py", FILES)
        for path in FILES:
            with self.subTest(path.name):
                self.assertRegex(path.name, r"\A([a-z][a-z0-9_]*|__init__|__main__)\.py\Z")

    def test_signs_sizes_and_words(self):
        for path in FILES:
            data = path.read_bytes()
            lines = data.decode("ascii").split("\n")
            with self.subTest(path.name):
                self.assertLessEqual(set(data), {10, *range(32, 127)})
                self.assertLessEqual(len(lines) - 1, 400)
                self.assertLessEqual(max(len(line) for line in lines), 120)
                self.assertIsNone(WORDS.search(data.decode("ascii")))

    def test_forms_that_are_out(self):
        self.assertEqual(faults(OUT, lambda node: True), [])
        self.assertEqual(faults(ast.Constant, wrong_constant), [])
        self.assertEqual(faults((ast.For, ast.While), lambda node: node.orelse), [])
        self.assertEqual(faults(ast.Compare, wrong_is), [])

    def test_imports(self):
        self.assertEqual(faults(ast.ImportFrom, wrong_import), [])

    def test_defs_and_classes(self):
        self.assertEqual(faults((ast.FunctionDef, ast.Lambda), wrong_parameters), [])
        self.assertEqual(faults(ast.FunctionDef, wrong_def), [])
        self.assertEqual(faults(ast.ClassDef, wrong_class), [])

    def test_names(self):
        self.assertEqual(faults((ast.Name, ast.arg, ast.Attribute, ast.FunctionDef, ast.ClassDef), wrong_name), [])


if __name__ == "__main__":
    unittest.main()
