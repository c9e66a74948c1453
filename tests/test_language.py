"""Tests of the package's files against those rules of LANGUAGE.md that can be read off them."""

import ast
import builtins
import re
import unittest
from pathlib import Path

PACKAGE = Path(__file__).resolve().parent.parent / "sumorder"
BUILTINS = set(
    "len range enumerate zip min max sum abs sorted reversed int str bool bytes list tuple dict set"
    " frozenset isinstance ord repr any all divmod Exception ValueError TypeError KeyError"
    " IndexError LookupError ZeroDivisionError ArithmeticError OverflowError RuntimeError"
    " NotImplementedError AttributeError StopIteration NotImplemented object float".split()
)
BARRED = re.compile(
    r"\b(type|typing|typing_extensions|enum|Enum|IntEnum|StrEnum|Flag|IntFlag|Generic|Protocol"
    r"|ABC|ABCMeta|namedtuple|NamedTuple|TypedDict|TYPE_CHECKING|abstractmethod)\b"
    r"|dataclass|overload|contextmanager"
)
BARRED_STATEMENTS = (ast.Global, ast.AsyncFunctionDef, ast.AsyncFor, ast.AsyncWith, ast.Await)
UNCALLED_SINKS = set(
    "list tuple dict sorted sum any all enumerate zip bytes min max join len reversed".split()
)


def files():
    """The package's files."""
    return sorted(PACKAGE.rglob("*.py"))


def nodes():
    """All nodes of all files, each with the file's name."""
    return [(path.name, node) for path in files() for node in ast.walk(ast.parse(path.read_text()))]


class Files(unittest.TestCase):
    def test_nothing_but_python_files(self):
        others = [path.name for path in PACKAGE.iterdir()
                  if path.name != "__pycache__" and not re.fullmatch(r"[a-z0-9_]+\.py", path.name)]
        self.assertEqual(others, [])
        self.assertIn("__init__.py", [path.name for path in files()])

    def test_signs_and_sizes(self):
        for path in files():
            text = path.read_text()
            lines = text.split("\n")
            with self.subTest(path.name):
                self.assertEqual(re.findall(r"[^ -~\n]", text), [])
                self.assertLessEqual(len(lines), 400)
                self.assertLessEqual(max(len(line) for line in lines), 120)

    def test_barred_words(self):
        for path in files():
            with self.subTest(path.name):
                self.assertIsNone(BARRED.search(path.read_text()))


class Code(unittest.TestCase):
    def test_functions_are_small(self):
        for name, node in nodes():
            if isinstance(node, ast.FunctionDef):
                with self.subTest(name, function=node.name):
                    self.assertLessEqual(node.end_lineno - node.lineno + 1, 40)

    def test_imports_are_from_the_package_by_full_names(self):
        for name, node in nodes():
            self.assertNotIsInstance(node, ast.Import, name)
            if isinstance(node, ast.ImportFrom):
                with self.subTest(name, line=node.lineno):
                    self.assertEqual(node.level, 0)
                    self.assertRegex(node.module, r"^(sumorder\.\w+|__future__)$")
                    self.assertNotIn("*", [alias.name for alias in node.names])

    def test_module_level(self):
        allowed = (ast.ImportFrom, ast.FunctionDef, ast.ClassDef, ast.Assign)
        for path in files():
            for at, node in enumerate(ast.parse(path.read_text()).body):
                docstring = at == 0 and isinstance(node, ast.Expr)
                with self.subTest(path.name, line=node.lineno):
                    self.assertTrue(docstring or isinstance(node, allowed))

    def test_builtins(self):
        for name, node in nodes():
            if isinstance(node, ast.Name) and hasattr(builtins, node.id):
                with self.subTest(name, line=node.lineno):
                    self.assertIn(node.id, BUILTINS)
                    self.assertIsInstance(node.ctx, ast.Load)
            if isinstance(node, ast.arg):
                self.assertFalse(hasattr(builtins, node.arg), f"{name}: {node.arg}")

    def test_names_do_not_begin_with_an_underscore(self):
        for name, node in nodes():
            if isinstance(node, ast.Name):
                self.assertFalse(node.id.startswith("_"), f"{name}: {node.id}")

    def test_statements_and_signs(self):
        for name, node in nodes():
            with self.subTest(name, line=getattr(node, "lineno", 0)):
                self.assertNotIsInstance(node, BARRED_STATEMENTS)
                self.assertNotIsInstance(node, ast.Div)
                if isinstance(node, ast.Constant):
                    self.assertNotIsInstance(node.value, (float, complex))
                    self.assertNotIn("%", str(node.value))
                if isinstance(node, ast.Compare):
                    for sign, right in zip(node.ops, node.comparators):
                        if isinstance(sign, (ast.Is, ast.IsNot)):
                            self.assertIsInstance(right, ast.Constant)

    def test_loops_over_ranges_and_zips_are_on_the_spot(self):
        lazy = ("range", "zip", "enumerate", "reversed")
        for name, node in nodes():
            if isinstance(node, ast.Call):
                callee = getattr(node.func, "id", getattr(node.func, "attr", ""))
                for given in node.args:
                    if isinstance(given, ast.Call) and getattr(given.func, "id", "") in lazy:
                        self.assertIn(callee, UNCALLED_SINKS, f"{name}:{node.lineno}")
            if isinstance(node, (ast.Assign, ast.Return)) and isinstance(node.value, ast.Call):
                self.assertNotIn(getattr(node.value.func, "id", ""), lazy, f"{name}:{node.lineno}")


if __name__ == "__main__":
    unittest.main()
