"""The form of the package's files: where the interface's names stand, and the plainest rules of the language."""

import ast
import re
import unittest
from pathlib import Path

PACKAGE = Path(__file__).resolve().parent.parent / "lesslater"
DEFINED = {
    "errors.py": (
        "PlanError", "BadDay", "BadDurations", "BadFraction", "BadMost", "BadPlan", "BadText", "Full", "Late",
        "NoBack", "NoGroup", "NotBeside", "NothingToUndo", "TooMany", "NoPair", "NoTask",
    ),
    "fractions.py": ("is_fraction", "fraction"),
}
BARRED = re.compile(
    r"\b(type|typing|typing_extensions|enum|Enum|IntEnum|StrEnum|Flag|IntFlag|Generic|Protocol|ABC|ABCMeta"
    r"|namedtuple|NamedTuple|TypedDict|TYPE_CHECKING|abstractmethod)\b|dataclass|overload|contextmanager"
)


def files():
    return sorted(PACKAGE.glob("*.py"))


def imported(path):
    """Return the import statements of a file."""
    return [node for node in ast.walk(ast.parse(path.read_text())) if isinstance(node, (ast.Import, ast.ImportFrom))]


class FormTest(unittest.TestCase):
    def test_the_folder_contains_nothing_but_python_files(self):
        self.assertIn(PACKAGE / "__init__.py", files())
        others = [path.name for path in PACKAGE.iterdir() if path not in files() and path.name != "__pycache__"]
        self.assertEqual(others, [])

    def test_names_are_defined_where_the_interface_lists_them(self):
        for file, names in DEFINED.items():
            body = ast.parse((PACKAGE / file).read_text()).body
            found = [node.name for node in body if isinstance(node, (ast.FunctionDef, ast.ClassDef))]
            for name in names:
                with self.subTest(file, name=name):
                    self.assertEqual(found.count(name), 1)

    def test_characters_and_sizes(self):
        for path in files():
            with self.subTest(path.name):
                text = path.read_text()
                self.assertRegex(text, r"\A[ -~\n]*\Z")
                self.assertLessEqual(len(text.splitlines()), 399)
                self.assertLessEqual(max(map(len, text.splitlines()), default=0), 120)
                for node in ast.walk(ast.parse(text)):
                    if isinstance(node, ast.FunctionDef):
                        self.assertLessEqual(node.end_lineno - node.lineno + 1, 40, node.name)

    def test_barred_words(self):
        for path in files():
            with self.subTest(path.name):
                self.assertIsNone(BARRED.search(path.read_text()))

    def test_imports_name_files_of_the_package(self):
        for path in files():
            for node in imported(path):
                with self.subTest(path.name, line=node.lineno):
                    self.assertIsInstance(node, ast.ImportFrom)
                    self.assertEqual(node.level, 0)
                    self.assertRegex(node.module, r"\Alesslater\.[a-z_]+\Z")
                    self.assertTrue((PACKAGE / (node.module.partition(".")[2] + ".py")).exists())

    def test_no_two_files_import_from_each_other(self):
        rest = {path.stem: {node.module.partition(".")[2] for node in imported(path)} for path in files()}
        while rest:
            free = [name for name, needs in rest.items() if not needs & set(rest)]
            self.assertTrue(free, f"a ring of imports: {sorted(rest)}")
            for name in free:
                del rest[name]


if __name__ == "__main__":
    unittest.main()
