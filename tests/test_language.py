"""The rules of the Python subset that can be seen by a short look at the files of the package."""

import ast
import pathlib
import re
import unittest

FOLDER = pathlib.Path(__file__).resolve().parent.parent / "lastshort"
FILES = sorted(FOLDER.glob("*.py"))
BARRED = re.compile(
    r"\b(type|typing|typing_extensions|enum|Enum|IntEnum|StrEnum|Flag|IntFlag|Generic|Protocol|ABC|ABCMeta"
    r"|namedtuple|NamedTuple|TypedDict|TYPE_CHECKING|abstractmethod)\b|dataclass|overload|contextmanager")
BUILTINS = set(
    "len range enumerate zip min max sum abs sorted reversed int str bool bytes list tuple dict set frozenset"
    " isinstance ord repr any all divmod iter next property staticmethod classmethod super Exception ValueError"
    " TypeError KeyError IndexError LookupError ZeroDivisionError ArithmeticError OverflowError RuntimeError"
    " NotImplementedError AttributeError StopIteration NotImplemented".split())
MODULE_LEVEL = (ast.Expr, ast.ImportFrom, ast.FunctionDef, ast.ClassDef, ast.Assign)


def text_of(path):
    return path.read_text(encoding="utf-8")


def nodes_of(path):
    return list(ast.walk(ast.parse(text_of(path))))


def bound_names(tree):
    """The names that a file binds anywhere, those of its imports included."""
    names = set()
    for node in ast.walk(tree):
        if isinstance(node, (ast.FunctionDef, ast.ClassDef)):
            names.add(node.name)
        elif isinstance(node, ast.Name) and isinstance(node.ctx, ast.Store):
            names.add(node.id)
        elif isinstance(node, ast.arg):
            names.add(node.arg)
        elif isinstance(node, ast.alias):
            names.add(node.asname or node.name)
        elif isinstance(node, ast.ExceptHandler) and node.name:
            names.add(node.name)
    return names


class LanguageTest(unittest.TestCase):
    def test_there_are_files(self):
        self.assertIn("__init__.py", [path.name for path in FILES])
        self.assertGreater(len(FILES), 3)

    def test_the_folder_contains_only_files_with_plain_names(self):
        for path in FOLDER.iterdir():
            if path.name != "__pycache__":
                self.assertRegex(path.name, r"^([a-z][a-z0-9_]*|__init__|__main__)\.py$")

    def test_characters_and_lengths(self):
        for path in FILES:
            rows = text_of(path).split("\n")
            self.assertLessEqual(len(rows), 399, path.name)
            for row in rows:
                self.assertRegex(row, r"^[ -~]{0,120}$", path.name)

    def test_functions_are_short(self):
        for path in FILES:
            for node in nodes_of(path):
                if isinstance(node, ast.FunctionDef):
                    self.assertLessEqual(node.end_lineno - node.lineno + 1, 40, (path.name, node.name))

    def test_barred_words(self):
        for path in FILES:
            self.assertIsNone(BARRED.search(text_of(path)), path.name)

    def test_imports_name_the_file_that_defines(self):
        for path in FILES:
            for node in nodes_of(path):
                self.assertNotIsInstance(node, ast.Import, path.name)
                if isinstance(node, ast.ImportFrom):
                    self.assertEqual((node.level, node.module.split(".")[0]), (0, "lastshort"), path.name)
                    other = FOLDER / (node.module.split(".")[1] + ".py")
                    defined = {name for top in ast.parse(text_of(other)).body if not isinstance(top, ast.ImportFrom)
                               for name in bound_names(top)}
                    for alias in node.names:
                        self.assertIn(alias.name, defined, path.name)

    def test_module_level(self):
        for path in FILES:
            for node in ast.parse(text_of(path)).body:
                self.assertIsInstance(node, MODULE_LEVEL, path.name)

    def test_plain_names(self):
        for path in FILES:
            for name in bound_names(ast.parse(text_of(path))):
                self.assertRegex(name, r"^([A-Za-z][A-Za-z0-9_]*|__[a-z]+__)$", path.name)
                self.assertNotIn(name, BUILTINS, path.name)

    def test_only_the_listed_builtins_are_used(self):
        for path in FILES:
            known = bound_names(ast.parse(text_of(path))) | BUILTINS
            for node in nodes_of(path):
                if isinstance(node, ast.Name) and isinstance(node.ctx, ast.Load):
                    self.assertIn(node.id, known, (path.name, node.lineno))


if __name__ == "__main__":
    unittest.main()
