"""Those rules of the language of the package that are easily told from its files."""

import ast
import builtins
import pathlib
import re
import unittest

PACKAGE = pathlib.Path(__file__).resolve().parent.parent / "shortlooks"
FILES = sorted(path for path in PACKAGE.rglob("*") if path.is_file() and "__pycache__" not in path.parts)
TREES = {path.stem: ast.parse(path.read_text("ascii")) for path in FILES}

ALLOWED = set("""
len range enumerate zip min max sum abs sorted reversed int str bool bytes list tuple dict set frozenset isinstance
ord repr any all divmod iter next super property staticmethod classmethod Exception ValueError TypeError KeyError
IndexError LookupError ZeroDivisionError ArithmeticError OverflowError RuntimeError NotImplementedError AttributeError
StopIteration NotImplemented
""".split())
BARRED = r"\b(type|typing|typing_extensions|enum|Enum|IntEnum|StrEnum|Flag|IntFlag|Generic|Protocol|ABC|ABCMeta" \
         r"|namedtuple|NamedTuple|TypedDict|TYPE_CHECKING|abstractmethod)\b|dataclass|overload|contextmanager"


def named_in(node):
    """The names that a node of a file's tree binds or uses."""
    for part in ast.walk(node):
        for field in ("id", "name", "arg", "attr"):
            name = getattr(part, field, None)
            if isinstance(name, str):
                yield name


def bound_in(tree):
    """The names that a file defines at module level."""
    for part in tree.body:
        if isinstance(part, (ast.FunctionDef, ast.ClassDef)):
            yield part.name
        elif isinstance(part, ast.Assign):
            yield part.targets[0].id


class Language(unittest.TestCase):
    def test_files(self):
        self.assertIn(PACKAGE / "__init__.py", FILES)
        for path in FILES:
            self.assertRegex(path.name, r"\A([a-z][a-z0-9_]*|__init__|__main__)\.py\Z")

    def test_characters_and_sizes(self):
        for path in FILES:
            text = path.read_text("ascii")
            with self.subTest(path.name):
                self.assertRegex(text, r"\A[ -~\n]*\Z")
                self.assertLessEqual(len(text.split("\n")), 400)
                self.assertLessEqual(max(len(line) for line in text.split("\n")), 120)
                self.assertIsNone(re.search(BARRED, text))

    def test_lengths_of_functions(self):
        for name, tree in TREES.items():
            for part in ast.walk(tree):
                if isinstance(part, ast.FunctionDef):
                    with self.subTest(name, function=part.name):
                        self.assertLessEqual(part.end_lineno - part.lineno + 1, 40)

    def test_module_level(self):
        for name, tree in TREES.items():
            with self.subTest(name):
                self.assertIsNotNone(ast.get_docstring(tree))
                for part in tree.body[1:]:
                    self.assertIsInstance(part, (ast.ImportFrom, ast.FunctionDef, ast.ClassDef, ast.Assign))
                bound = list(bound_in(tree))
                self.assertEqual(len(bound), len(set(bound)))

    def test_imports_name_the_file_that_defines_the_name(self):
        for name, tree in TREES.items():
            for part in ast.walk(tree):
                with self.subTest(name):
                    self.assertNotIsInstance(part, ast.Import)
                    if isinstance(part, ast.ImportFrom):
                        package, source = part.module.split(".")
                        self.assertEqual((package, part.level), ("shortlooks", 0))
                        defined = set(bound_in(TREES[source]))
                        self.assertLessEqual({alias.name for alias in part.names}, defined)

    def test_names(self):
        for name, tree in TREES.items():
            for used in named_in(tree):
                with self.subTest(name, used=used):
                    self.assertRegex(used, r"\A([A-Za-z][A-Za-z0-9_]*|__[a-z]+__)\Z")

    def test_builtins(self):
        for name, tree in TREES.items():
            for part in ast.walk(tree):
                if isinstance(part, ast.Name) and hasattr(builtins, part.id):
                    with self.subTest(name, used=part.id):
                        self.assertIn(part.id, ALLOWED)
                        self.assertIsInstance(part.ctx, ast.Load)


if __name__ == "__main__":
    unittest.main()
