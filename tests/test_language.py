"""The rules of the Python subset that can be seen by a short look at the files of the package."""

import ast
import builtins
import pathlib
import re
import unittest

FOLDER = pathlib.Path(__file__).resolve().parent.parent / "lastshort"
FILES = sorted(FOLDER.glob("*.py"))
BARRED = re.compile(
    r"\b(type|typing|typing_extensions|enum|Enum|IntEnum|StrEnum|Flag|IntFlag|Generic|Protocol|ABC|ABCMeta"
    r"|namedtuple|NamedTuple|TypedDict|TYPE_CHECKING|abstractmethod)\b|dataclass|overload|contextmanager")
BUILTINS = set(
    "len range enumerate zip min max sum abs sorted reversed int str bool bytes list tuple dict set frozenset"
    " isinstance ord repr any all divmod iter next property staticmethod classmethod super Exception ValueError"
    " TypeError KeyError IndexError LookupError ZeroDivisionError ArithmeticError OverflowError RuntimeError"
    " NotImplementedError AttributeError StopIteration NotImplemented".split())
MODULE_LEVEL = (ast.Expr, ast.ImportFrom, ast.FunctionDef, ast.ClassDef, ast.Assign)


def text_of(path):
    return path.read_text(encoding="utf-8")


def nodes_of(path):
    return list(ast.walk(ast.parse(text_of(path))))


def bound_names(tree):
    """The names that a file binds anywhere, those of its imports included."""
    names = set()
    for node in ast.walk(tree):
        if isinstance(node, (ast.FunctionDef, ast.ClassDef)):
            names.add(node.name)
        elif isinstance(node, ast.Name) and isinstance(node.ctx, ast.Store):
            names.add(node.id)
        elif isinstance(node, ast.arg):
            names.add(node.arg)
        elif isinstance(node, ast.alias):
            names.add(node.asname or node.name)
        elif isinstance(node, ast.ExceptHandler) and node.name:
            names.add(node.name)
    return names


def methods_of(path):
    return {node.name for top in nodes_of(path) if isinstance(top, ast.ClassDef)
            for node in top.body if isinstance(node, ast.FunctionDef)}


def attributes_of(path):
    return {node.attr for node in nodes_of(path)
            if isinstance(node, ast.Attribute) and isinstance(node.ctx, ast.Store)}


# What the interface lists, by file.
INTERFACE = {
    "sources.py": {"Source": {"allows"}},
    "loops.py": {"Loop": {"without", "run"}},
    "samples.py": {"sample_loop": set(), "sample_source": set()},
    "judging.py": {"always": set(), "failing": set(), "fault": set(), "needless": set()},
    "comparing.py": {"first_unlike": set(), "alike": set(), "rounds": set()},
    "chains.py": {"Chain": {"number", "piece", "place_of"}, "first_difference": set(), "widths_seen": set()},
    "readings.py": {"Reading": {"feed", "feed_all", "undo", "trial"}, "within": set(), "attempt": set()},
    "checker.py": {"holds": set()},
    "certificates.py": {"certify": set(), "certify_unlike": set(), "certify_chains": set()},
    "reports.py": {"fault_table": set(), "piece_table": set()},
    "console.py": {"Console": {"say"}},
}


class LanguageTest(unittest.TestCase):
    def test_there_are_files(self):
        self.assertIn("__init__.py", [path.name for path in FILES])
        self.assertGreater(len(FILES), 3)

    def test_the_folder_contains_only_files_with_plain_names(self):
        for path in FOLDER.iterdir():
            if path.name != "__pycache__":
                self.assertRegex(path.name, r"^([a-z][a-z0-9_]*|__init__|__main__)\.py$")

    def test_characters_and_lengths(self):
        for path in FILES:
            rows = text_of(path).split("\n")
            self.assertLessEqual(len(rows), 399, path.name)
            for row in rows:
                self.assertRegex(row, r"^[ -~]{0,120}$", path.name)

    def test_functions_are_short(self):
        for path in FILES:
            for node in nodes_of(path):
                if isinstance(node, ast.FunctionDef):
                    self.assertLessEqual(node.end_lineno - node.lineno + 1, 40, (path.name, node.name))

    def test_barred_words(self):
        for path in FILES:
            self.assertIsNone(BARRED.search(text_of(path)), path.name)

    def test_imports_name_the_file_that_defines(self):
        for path in FILES:
            for node in nodes_of(path):
                self.assertNotIsInstance(node, ast.Import, path.name)
                if isinstance(node, ast.ImportFrom):
                    self.assertEqual((node.level, node.module.split(".")[0]), (0, "lastshort"), path.name)
                    other = FOLDER / (node.module.split(".")[1] + ".py")
                    defined = {name for top in ast.parse(text_of(other)).body if not isinstance(top, ast.ImportFrom)
                               for name in bound_names(top)}
                    for alias in node.names:
                        self.assertIn(alias.name, defined, path.name)

    def test_module_level(self):
        for path in FILES:
            for node in ast.parse(text_of(path)).body:
                self.assertIsInstance(node, MODULE_LEVEL, path.name)

    def test_plain_names(self):
        for path in FILES:
            for name in bound_names(ast.parse(text_of(path))):
                self.assertRegex(name, r"^([A-Za-z][A-Za-z0-9_]*|__[a-z]+__)$", path.name)
                self.assertNotIn(name, BUILTINS, path.name)

    def test_only_the_listed_builtins_are_used(self):
        for path in FILES:
            known = bound_names(ast.parse(text_of(path))) | BUILTINS
            for node in nodes_of(path):
                if isinstance(node, ast.Name) and isinstance(node.ctx, ast.Load):
                    self.assertIn(node.id, known, (path.name, node.lineno))

    def test_the_interface_is_defined_in_its_files(self):
        for name, listed in INTERFACE.items():
            defined = {node.name: node for node in ast.parse(text_of(FOLDER / name)).body
                       if isinstance(node, (ast.FunctionDef, ast.ClassDef))}
            for entry, methods in listed.items():
                self.assertIn(entry, defined, name)
                own = {node.name for node in defined[entry].body if isinstance(node, ast.FunctionDef)}
                self.assertLessEqual(methods, own, entry)

    def test_no_name_is_a_method_and_an_attribute(self):
        methods = set().union(*[methods_of(path) for path in FILES])
        attributes = set().union(*[attributes_of(path) for path in FILES])
        self.assertEqual(methods & attributes, set())

    def test_names_are_not_those_of_builtins(self):
        for path in FILES:
            for name in bound_names(ast.parse(text_of(path))) - methods_of(path):
                self.assertNotIn(name, dir(builtins), path.name)

    def test_any_and_the_like_take_no_generator(self):
        for path in FILES:
            for node in nodes_of(path):
                self.assertNotIsInstance(node, ast.GeneratorExp, path.name)

    def test_statements_and_values_that_are_not_allowed(self):
        barred = (ast.Global, ast.AsyncFunctionDef, ast.Await, ast.Div)
        for path in FILES:
            for node in nodes_of(path):
                self.assertNotIsInstance(node, barred, path.name)
                self.assertFalse(isinstance(node, ast.Constant) and isinstance(node.value, (float, complex)), path.name)

    def test_no_two_files_import_from_each_other(self):
        imports = {path.stem: {node.module.split(".")[1] for node in nodes_of(path) if isinstance(node, ast.ImportFrom)}
                   for path in FILES}
        while imports:
            free = {name for name, others in imports.items() if not others & set(imports)}
            self.assertTrue(free, imports)
            imports = {name: others for name, others in imports.items() if name not in free}


if __name__ == "__main__":
    unittest.main()
