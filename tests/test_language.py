"""A part of LANGUAGE.md that can be seen file by file; the rest of its rules is for the reader."""

import ast
import builtins
import re
import unittest
from pathlib import Path

FOLDER = Path(__file__).resolve().parent.parent / "notefall"
FILES = sorted(path for path in FOLDER.rglob("*") if path.is_file() and "__pycache__" not in path.parts)

TWO_UNDERSCORES = {"__init__", "__eq__", "__repr__", "__str__", "__len__"}
OWN_NAMES = set(
    "len range enumerate zip min max sum abs sorted reversed int str bool bytes list tuple dict set frozenset "
    "isinstance ord repr any all divmod Exception ValueError TypeError KeyError IndexError LookupError "
    "ZeroDivisionError ArithmeticError OverflowError RuntimeError NotImplementedError AttributeError "
    "StopIteration object".split()
)
WORDS = re.compile(
    r"\b(type|typing|typing_extensions|enum|Enum|IntEnum|StrEnum|Flag|IntFlag|Generic|Protocol|ABC|ABCMeta|namedtuple"
    r"|NamedTuple|TypedDict|TYPE_CHECKING|abstractmethod)\b|dataclass|overload|contextmanager"
)
OWN_METHODS = set(
    "append clear copy count endswith extend find get index insert isalnum isalpha isdigit islower isspace isupper items "
    "join keys ljust lower lstrip partition pop remove replace reverse rfind rjust rpartition rsplit rstrip setdefault "
    "split splitlines startswith strip update upper values zfill bit_length title capitalize swapcase casefold center "
    "removeprefix removesuffix rindex isascii isdecimal isnumeric istitle isidentifier isprintable".split()
)
UNUSED = set("register mro elements open input version_info with_traceback add_note format format_map".split())
OUT = (
    ast.With, ast.Match, ast.Global, ast.Nonlocal, ast.Yield, ast.YieldFrom, ast.Await, ast.AsyncFunctionDef,
    ast.AsyncFor, ast.AsyncWith, ast.GeneratorExp, ast.NamedExpr, ast.Div, ast.MatMult, ast.Import, ast.TryStar,
)


def faults(kinds, wrong):
    """The places of all parts of these kinds that are wrong."""
    found = []
    for path in FILES:
        for node in ast.walk(ast.parse(path.read_text(encoding="ascii"))):
            if isinstance(node, kinds) and wrong(node):
                found.append(f"{path.name}:{getattr(node, 'lineno', 0)}: {ast.dump(node)}")
    return found


def wrong_constant(node):
    return isinstance(node.value, (float, complex)) or isinstance(node.value, str) and "%" in node.value


def wrong_is(node):
    sides = [node.left] + node.comparators
    for at, sign in enumerate(node.ops):
        if isinstance(sign, (ast.Is, ast.IsNot)):
            if not any(isinstance(side, ast.Constant) for side in sides[at:at + 2]):
                return True
    return False


def wrong_import(node):
    own = re.fullmatch(r"__future__|notefall\.[a-z0-9_]+", node.module or "")
    return node.level > 0 or not own or "*" in [drawn.name for drawn in node.names]


def wrong_parameters(node):
    return bool(node.args.vararg or node.args.kwarg or node.args.posonlyargs)


def wrong_def(node):
    return bool(node.decorator_list) or node.end_lineno - node.lineno + 1 > 40


def wrong_class(node):
    rows = all(isinstance(row, (ast.FunctionDef, ast.Pass, ast.Expr)) for row in node.body)
    return bool(node.decorator_list or node.keywords) or len(node.bases) > 1 or not rows


def wrong_name(node):
    name = next(getattr(node, field) for field in ("id", "arg", "attr", "name") if hasattr(node, field))
    if name.startswith("_"):
        return name not in TWO_UNDERSCORES
    return isinstance(node, (ast.Name, ast.arg)) and name not in OWN_NAMES and hasattr(builtins, name)


def nodes(kinds):
    """All parts of these kinds in the package."""
    trees = [ast.parse(path.read_text(encoding="ascii")) for path in FILES]
    return [node for tree in trees for node in ast.walk(tree) if isinstance(node, kinds)]


def methods():
    return {row.name for node in nodes(ast.ClassDef) for row in node.body if isinstance(row, ast.FunctionDef)}


def values(context):
    """The names of the objects' values that are given or asked."""
    return {node.attr for node in nodes(ast.Attribute) if isinstance(node.ctx, context)}


def twice(names):
    return sorted({name for name in names if names.count(name) > 1})


def top_names(tree):
    """The names that a file binds at its top: those of imports and classes, and all."""
    drawn = [name.asname or name.name for row in tree.body if isinstance(row, ast.ImportFrom) for name in row.names]
    classes = [row.name for row in tree.body if isinstance(row, ast.ClassDef)]
    defs = [row.name for row in tree.body if isinstance(row, ast.FunctionDef)]
    given = [target.id for row in tree.body if isinstance(row, ast.Assign) for target in row.targets]
    return drawn + classes, drawn + classes + defs + given


def local_names(tree):
    """The names of parameters and of what is given within defs."""
    told = set()
    for node in ast.walk(tree):
        if isinstance(node, ast.FunctionDef):
            for part in ast.walk(node):
                if isinstance(part, ast.arg):
                    told.add(part.arg)
                if isinstance(part, ast.Name) and isinstance(part.ctx, ast.Store):
                    told.add(part.id)
    return told


def drawn_from(tree):
    """Tuples of the file and the name of all that a file draws in."""
    rows = [row for row in tree.body if isinstance(row, ast.ImportFrom) and row.module != "__future__"]
    return [(row.module.removeprefix("notefall."), name.name) for row in rows for name in row.names]


class WholePackage(unittest.TestCase):
    def test_names_are_drawn_from_the_file_that_defines_them(self):
        trees = {path.stem: ast.parse(path.read_text(encoding="ascii")) for path in FILES}
        for stem, tree in trees.items():
            for source, name in drawn_from(tree):
                drawn = [other for file, other in drawn_from(trees[source])]
                with self.subTest(file=stem, name=name):
                    self.assertIn(name, top_names(trees[source])[1])
                    self.assertNotIn(name, drawn)

    def test_no_two_files_draw_from_one_another(self):
        sources = {path.stem: {file for file, name in drawn_from(ast.parse(path.read_text(encoding="ascii")))} for path in FILES}
        settled = set()
        while len(settled) < len(sources):
            free = {stem for stem, needs in sources.items() if needs <= settled} - settled
            self.assertTrue(free, sorted(set(sources) - settled))
            settled |= free

    def test_no_name_is_a_method_and_a_value(self):
        self.assertEqual(sorted(methods() & values(ast.Store)), [])

    def test_what_is_asked_of_a_thing_is_given_somewhere(self):
        self.assertEqual(sorted(values(ast.Load) - values(ast.Store) - methods() - OWN_METHODS), [])

    def test_no_method_stands_twice_in_a_class(self):
        for node in nodes(ast.ClassDef):
            with self.subTest(node.name):
                self.assertEqual(twice([row.name for row in node.body if isinstance(row, ast.FunctionDef)]), [])

    def test_names_of_a_file(self):
        for path in FILES:
            tree = ast.parse(path.read_text(encoding="ascii"))
            shut, every = top_names(tree)
            with self.subTest(path.name):
                self.assertEqual(twice(every), [])
                self.assertEqual(sorted(local_names(tree) & set(shut)), [])

    def test_names_that_are_not_used(self):
        names = methods() | values((ast.Store, ast.Load))
        for path in FILES:
            tree = ast.parse(path.read_text(encoding="ascii"))
            names |= local_names(tree) | set(top_names(tree)[1])
        self.assertEqual(sorted(names & UNUSED), [])


class Language(unittest.TestCase):
    def test_files(self):
        self.assertIn(FOLDER / "__init__.py", FILES)
        for path in FILES:
            with self.subTest(path.name):
                self.assertRegex(path.name, r"\A([a-z][a-z0-9_]*|__init__|__main__)\.py\Z")

    def test_signs_sizes_and_words(self):
        for path in FILES:
            data = path.read_bytes()
            lines = data.decode("ascii").split("\n")
            with self.subTest(path.name):
                self.assertLessEqual(set(data), {10, *range(32, 127)})
                self.assertLessEqual(len(lines) - 1, 400)
                self.assertLessEqual(max(len(line) for line in lines), 120)
                self.assertIsNone(WORDS.search(data.decode("ascii")))

    def test_forms_that_are_out(self):
        self.assertEqual(faults(OUT, lambda node: True), [])
        self.assertEqual(faults(ast.Constant, wrong_constant), [])
        self.assertEqual(faults((ast.For, ast.While), lambda node: node.orelse), [])
        self.assertEqual(faults(ast.Compare, wrong_is), [])

    def test_imports(self):
        self.assertEqual(faults(ast.ImportFrom, wrong_import), [])

    def test_defs_and_classes(self):
        self.assertEqual(faults((ast.FunctionDef, ast.Lambda), wrong_parameters), [])
        self.assertEqual(faults(ast.FunctionDef, wrong_def), [])
        self.assertEqual(faults(ast.ClassDef, wrong_class), [])

    def test_names(self):
        self.assertEqual(faults((ast.Name, ast.arg, ast.Attribute, ast.FunctionDef, ast.ClassDef), wrong_name), [])


if __name__ == "__main__":
    unittest.main()
