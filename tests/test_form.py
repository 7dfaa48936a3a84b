"""The form of the package's files: where the interface's names stand, and the plainest rules of the language."""

import ast
import builtins
import re
import unittest
from pathlib import Path

PACKAGE = Path(__file__).resolve().parent.parent / "lesslater"
DEFINED = {
    "errors.py": (
        "PlanError", "BadDay", "BadDurations", "BadFraction", "BadMost", "BadPlan", "BadText", "Full", "Late",
        "NoBack", "NoGroup", "NotBeside", "NothingToUndo", "TooMany", "NoPair", "NoTask",
    ),
    "fractions.py": ("is_fraction", "fraction"),
    "plans.py": ("Plan",),
    "runs.py": ("durations_error", "times", "whole_end", "course_of", "moments"),
    "courses.py": ("is_beginning", "running", "next_groups", "chains", "conditions", "point", "courses"),
    "lateness.py": ("latest", "earliest", "beyond", "is_by", "paper", "paper_holds"),
    "steady.py": ("shorter_later", "less_holds", "is_steady", "fewest_pairs"),
    "pairs.py": ("later", "apart_at", "is_alike"),
    "walkers.py": ("Walker",),
    "benches.py": ("Bench",),
    "texts.py": ("plan_text", "read_plan"),
    "desks.py": ("Desk",),
}
METHODS = {
    "Plan": (
        "tasks", "order", "workers", "with_task", "with_order", "with_workers", "pairs", "with_pair", "without_pair",
        "apart", "__getitem__", "__len__", "__eq__", "__str__",
    ),
    "Walker": ("plan", "beginning", "groups", "__call__", "back", "twin", "__len__", "__eq__"),
    "Bench": (
        "plan", "day", "version", "news", "is_steady", "set_task", "set_order", "set_workers", "add_pair", "drop_pair",
        "set_day", "undo", "tried", "__getitem__", "__setitem__", "__eq__", "__str__",
    ),
    "Desk": ("say", "history"),
}
ALLOWED_BUILTINS = set(
    "len range enumerate zip min max sum abs sorted reversed int str bool bytes list tuple dict set frozenset "
    "isinstance ord repr any all divmod Exception ValueError TypeError KeyError IndexError LookupError "
    "ZeroDivisionError ArithmeticError OverflowError RuntimeError NotImplementedError StopIteration NotImplemented "
    "property staticmethod classmethod super".split()
)
BARRED = re.compile(
    r"\b(type|typing|typing_extensions|enum|Enum|IntEnum|StrEnum|Flag|IntFlag|Generic|Protocol|ABC|ABCMeta"
    r"|namedtuple|NamedTuple|TypedDict|TYPE_CHECKING|abstractmethod)\b|dataclass|overload|contextmanager"
)


def files():
    return sorted(PACKAGE.glob("*.py"))


def nodes(path, *kinds):
    """Return the nodes of some kinds in a file."""
    return [node for node in ast.walk(ast.parse(path.read_text())) if isinstance(node, kinds)]


def bound_names(path):
    """Return the names of functions, classes, parameters and variables of a file."""
    found = {node.name for node in nodes(path, ast.FunctionDef, ast.ClassDef)}
    found |= {node.arg for node in nodes(path, ast.arg)}
    return found | {node.id for node in nodes(path, ast.Name) if isinstance(node.ctx, ast.Store)}


def is_call_of(node, names):
    return isinstance(node, ast.Call) and isinstance(node.func, ast.Name) and node.func.id in names


def imported(path):
    """Return the import statements of a file."""
    return nodes(path, ast.Import, ast.ImportFrom)


class FormTest(unittest.TestCase):
    def test_the_folder_contains_nothing_but_python_files(self):
        self.assertIn(PACKAGE / "__init__.py", files())
        others = [path.name for path in PACKAGE.iterdir() if path not in files() and path.name != "__pycache__"]
        self.assertEqual(others, [])

    def test_names_are_defined_where_the_interface_lists_them(self):
        for file, names in DEFINED.items():
            body = ast.parse((PACKAGE / file).read_text()).body
            found = [node.name for node in body if isinstance(node, (ast.FunctionDef, ast.ClassDef))]
            for name in names:
                with self.subTest(file, name=name):
                    self.assertEqual(found.count(name), 1)

    def test_methods_stand_in_the_body_of_their_class(self):
        classes = [node.name for path in files() for node in nodes(path, ast.ClassDef)]
        self.assertLessEqual(set(METHODS), set(classes))
        for path in files():
            for node in nodes(path, ast.ClassDef):
                found = [part.name for part in node.body if isinstance(part, ast.FunctionDef)]
                self.assertEqual(len(found), len(set(found)))
                self.assertLessEqual(set(METHODS.get(node.name, ())), set(found), node.name)

    def test_no_name_is_a_method_here_and_an_attribute_there(self):
        methods, attributes = set(), set()
        for path in files():
            for node in nodes(path, ast.ClassDef):
                methods |= {part.name for part in node.body if isinstance(part, ast.FunctionDef)}
            attributes |= {node.attr for node in nodes(path, ast.Attribute) if isinstance(node.ctx, ast.Store)}
        self.assertEqual(methods & attributes, set())

    def test_names(self):
        for path in files():
            with self.subTest(path.name):
                names = bound_names(path)
                self.assertEqual([name for name in names if name in dir(builtins)], [])
                brought = [alias.asname or alias.name for node in imported(path) for alias in node.names]
                self.assertEqual(sorted(names & set(brought)), [])
                for name in names:
                    self.assertRegex(name, r"\A([a-zA-Z][a-zA-Z0-9_]*|__[a-z]+__)\Z")

    def test_builtins(self):
        for path in files():
            used = {node.id for node in nodes(path, ast.Name)}
            with self.subTest(path.name):
                self.assertLessEqual(used & set(dir(builtins)), ALLOWED_BUILTINS)

    def test_what_is_iterated_at_once(self):
        for path in files():
            for node in nodes(path, ast.Assign, ast.Return):
                with self.subTest(path.name, line=node.lineno):
                    self.assertFalse(is_call_of(node.value, ("range", "zip", "enumerate", "reversed", "moments")))
            for node in nodes(path, ast.GeneratorExp):
                self.fail(f"a list is taken instead: {path.name}, line {node.lineno}")

    def test_statements_that_are_not_used(self):
        barred = (ast.Global, ast.AsyncFunctionDef, ast.AsyncFor, ast.AsyncWith, ast.Await, ast.Div)
        for path in files():
            with self.subTest(path.name):
                self.assertEqual([ast.dump(node) for node in nodes(path, *barred)], [])
                floats = [node for node in nodes(path, ast.Constant) if isinstance(node.value, (float, complex))]
                self.assertEqual(floats, [])

    def test_characters_and_sizes(self):
        for path in files():
            with self.subTest(path.name):
                text = path.read_text()
                self.assertRegex(text, r"\A[ -~\n]*\Z")
                self.assertLessEqual(len(text.splitlines()), 399)
                self.assertLessEqual(max(map(len, text.splitlines()), default=0), 120)
                for node in ast.walk(ast.parse(text)):
                    if isinstance(node, ast.FunctionDef):
                        self.assertLessEqual(node.end_lineno - node.lineno + 1, 40, node.name)

    def test_barred_words(self):
        for path in files():
            with self.subTest(path.name):
                self.assertIsNone(BARRED.search(path.read_text()))

    def test_imports_name_files_of_the_package(self):
        for path in files():
            for node in imported(path):
                with self.subTest(path.name, line=node.lineno):
                    self.assertIsInstance(node, ast.ImportFrom)
                    self.assertEqual(node.level, 0)
                    self.assertRegex(node.module, r"\Alesslater\.[a-z_]+\Z")
                    self.assertTrue((PACKAGE / (node.module.partition(".")[2] + ".py")).exists())

    def test_no_two_files_import_from_each_other(self):
        rest = {path.stem: {node.module.partition(".")[2] for node in imported(path)} for path in files()}
        while rest:
            free = [name for name, needs in rest.items() if not needs & set(rest)]
            self.assertTrue(free, f"a ring of imports: {sorted(rest)}")
            for name in free:
                del rest[name]


if __name__ == "__main__":
    unittest.main()
