"""Tests of the package's files against those rules of LANGUAGE.md that can be read off them."""

import ast
import builtins
import re
import unittest
from pathlib import Path

PACKAGE = Path(__file__).resolve().parent.parent / "sumorder"
BUILTINS = set(
    "len range enumerate zip min max sum abs sorted reversed int str bool bytes list tuple dict set"
    " frozenset isinstance ord repr any all divmod Exception ValueError TypeError KeyError"
    " IndexError LookupError ZeroDivisionError ArithmeticError OverflowError RuntimeError"
    " NotImplementedError AttributeError StopIteration NotImplemented object float".split()
)
BARRED = re.compile(
    r"\b(type|typing|typing_extensions|enum|Enum|IntEnum|StrEnum|Flag|IntFlag|Generic|Protocol"
    r"|ABC|ABCMeta|namedtuple|NamedTuple|TypedDict|TYPE_CHECKING|abstractmethod)\b"
    r"|dataclass|overload|contextmanager"
)
BARRED_STATEMENTS = (ast.Global, ast.AsyncFunctionDef, ast.AsyncFor, ast.AsyncWith, ast.Await)
BUILTIN_METHODS = set(
    "append clear copy count endswith extend find get index insert isalnum isalpha isdigit islower isspace isupper"
    " items join keys ljust lower lstrip partition pop remove replace reverse rfind rjust rpartition rsplit rstrip"
    " setdefault split splitlines startswith strip update upper values zfill bit_length isascii __init__".split()
)
GENERATOR_SINKS = set("list tuple dict sorted sum min max any all join".split())
UNCALLED_SINKS = set(
    "list tuple dict sorted sum any all enumerate zip bytes min max join len reversed".split()
)


def files():
    """The package's files."""
    return sorted(PACKAGE.rglob("*.py"))


def nodes():
    """All nodes of all files, each with the file's name."""
    return [(path.name, node) for path in files() for node in ast.walk(ast.parse(path.read_text()))]


def methods():
    """The names of all methods of the package's classes."""
    return {part.name for name, node in nodes() if isinstance(node, ast.ClassDef)
            for part in node.body if isinstance(part, ast.FunctionDef)}


def attributes(kind):
    """The names of all attributes that are assigned (ast.Store) or read (ast.Load), methods called among these."""
    return {node.attr for name, node in nodes() if isinstance(node, ast.Attribute) and isinstance(node.ctx, kind)}


class Files(unittest.TestCase):
    def test_nothing_but_python_files(self):
        others = [path.name for path in PACKAGE.iterdir()
                  if path.name != "__pycache__" and not re.fullmatch(r"[a-z0-9_]+\.py", path.name)]
        self.assertEqual(others, [])
        self.assertIn("__init__.py", [path.name for path in files()])

    def test_signs_and_sizes(self):
        for path in files():
            text = path.read_text()
            lines = text.split("\n")
            with self.subTest(path.name):
                self.assertEqual(re.findall(r"[^ -~\n]", text), [])
                self.assertLessEqual(len(lines), 400)
                self.assertLessEqual(max(len(line) for line in lines), 120)

    def test_barred_words(self):
        for path in files():
            with self.subTest(path.name):
                self.assertIsNone(BARRED.search(path.read_text()))


class Code(unittest.TestCase):
    def test_functions_are_small(self):
        for name, node in nodes():
            if isinstance(node, ast.FunctionDef):
                with self.subTest(name, function=node.name):
                    self.assertLessEqual(node.end_lineno - node.lineno + 1, 40)

    def test_imports_are_from_the_package_by_full_names(self):
        for name, node in nodes():
            self.assertNotIsInstance(node, ast.Import, name)
            if isinstance(node, ast.ImportFrom):
                with self.subTest(name, line=node.lineno):
                    self.assertEqual(node.level, 0)
                    self.assertRegex(node.module, r"^(sumorder\.\w+|__future__)$")
                    self.assertNotIn("*", [alias.name for alias in node.names])

    def test_module_level(self):
        allowed = (ast.ImportFrom, ast.FunctionDef, ast.ClassDef, ast.Assign)
        for path in files():
            for at, node in enumerate(ast.parse(path.read_text()).body):
                docstring = at == 0 and isinstance(node, ast.Expr)
                with self.subTest(path.name, line=node.lineno):
                    self.assertTrue(docstring or isinstance(node, allowed))

    def test_builtins(self):
        for name, node in nodes():
            if isinstance(node, ast.Name) and hasattr(builtins, node.id):
                with self.subTest(name, line=node.lineno):
                    self.assertIn(node.id, BUILTINS)
                    self.assertIsInstance(node.ctx, ast.Load)
            if isinstance(node, ast.arg):
                self.assertFalse(hasattr(builtins, node.arg), f"{name}: {node.arg}")

    def test_names_do_not_begin_with_an_underscore(self):
        for name, node in nodes():
            if isinstance(node, ast.Name):
                self.assertFalse(node.id.startswith("_"), f"{name}: {node.id}")

    def test_statements_and_signs(self):
        for name, node in nodes():
            with self.subTest(name, line=getattr(node, "lineno", 0)):
                self.assertNotIsInstance(node, BARRED_STATEMENTS)
                self.assertNotIsInstance(node, ast.Div)
                if isinstance(node, ast.Constant):
                    self.assertNotIsInstance(node.value, (float, complex))
                    self.assertNotIn("%", str(node.value))
                if isinstance(node, ast.Compare):
                    for sign, right in zip(node.ops, node.comparators):
                        if isinstance(sign, (ast.Is, ast.IsNot)):
                            self.assertIsInstance(right, ast.Constant)

    def test_loops_over_ranges_and_zips_are_on_the_spot(self):
        lazy = ("range", "zip", "enumerate", "reversed")
        for name, node in nodes():
            if isinstance(node, ast.Call):
                callee = getattr(node.func, "id", getattr(node.func, "attr", ""))
                for given in node.args:
                    if isinstance(given, ast.Call) and getattr(given.func, "id", "") in lazy:
                        self.assertIn(callee, UNCALLED_SINKS, f"{name}:{node.lineno}")
            if isinstance(node, (ast.Assign, ast.Return)) and isinstance(node.value, ast.Call):
                self.assertNotIn(getattr(node.value.func, "id", ""), lazy, f"{name}:{node.lineno}")

    def test_generator_expressions_stand_where_they_may(self):
        for name, node in nodes():
            for child in ast.iter_child_nodes(node):
                if isinstance(child, ast.GeneratorExp):
                    self.assertIsInstance(node, ast.Call, f"{name}:{child.lineno}")
                    callee = getattr(node.func, "id", getattr(node.func, "attr", ""))
                    self.assertIn(callee, GENERATOR_SINKS, f"{name}:{child.lineno}")

    def test_sets_are_sorted_counted_or_asked_at_once(self):
        for name, node in nodes():
            for child in ast.iter_child_nodes(node):
                made = isinstance(child, ast.Call) and getattr(child.func, "id", "") == "set"
                if made or isinstance(child, (ast.SetComp, ast.Set)):
                    callee = getattr(getattr(node, "func", None), "id", "")
                    right = isinstance(node, (ast.Compare, ast.BinOp)) or callee in ("sorted", "len")
                    self.assertTrue(right, f"{name}:{child.lineno}")

    def test_no_variable_is_called_like_an_import_or_a_class(self):
        for path in files():
            tree = ast.parse(path.read_text())
            taken = {alias.asname or alias.name for node in tree.body
                     if isinstance(node, ast.ImportFrom) for alias in node.names}
            taken.update(node.name for node in tree.body if isinstance(node, ast.ClassDef))
            for node in ast.walk(tree):
                if isinstance(node, ast.arg):
                    self.assertNotIn(node.arg, taken, f"{path.name}:{node.lineno}")
                if isinstance(node, ast.Name) and isinstance(node.ctx, ast.Store):
                    self.assertNotIn(node.id, taken, f"{path.name}:{node.lineno}")

    def test_module_level_names_are_bound_once(self):
        for path in files():
            bound = []
            for node in ast.parse(path.read_text()).body:
                if isinstance(node, ast.ImportFrom):
                    bound += [alias.asname or alias.name for alias in node.names]
                if isinstance(node, (ast.FunctionDef, ast.ClassDef)):
                    bound.append(node.name)
                if isinstance(node, ast.Assign):
                    bound += [target.id for target in node.targets]
            self.assertEqual(len(bound), len(set(bound)), path.name)

    def test_what_a_loop_goes_through_is_not_changed_in_it(self):
        for name, node in nodes():
            if isinstance(node, ast.For):
                through = {part.id for part in ast.walk(node.iter) if isinstance(part, ast.Name)}
                for part in ast.walk(ast.Module(node.body, [])):
                    if isinstance(part, ast.Call) and isinstance(part.func, ast.Attribute):
                        changed = part.func.attr in ("append", "pop", "insert", "remove", "extend", "clear")
                        owner = getattr(part.func.value, "id", "")
                        self.assertFalse(changed and owner in through, f"{name}:{part.lineno}")


class Classes(unittest.TestCase):
    def test_no_name_is_a_method_and_an_attribute(self):
        self.assertEqual(methods() & attributes(ast.Store), set())

    def test_what_is_read_is_an_attribute_a_method_or_one_of_a_builtin_value(self):
        self.assertLessEqual(attributes(ast.Load), methods() | attributes(ast.Store) | BUILTIN_METHODS)

    def test_own_names_are_none_of_builtin_values(self):
        taken = {name for value in (0, "", b"", [], (), {}, set()) for name in dir(value)}
        own = {name for name in methods() if not name.startswith("__")} | attributes(ast.Store)
        self.assertEqual(own & taken, set())

    def test_attributes_are_assigned_through_self_or_a_parameter(self):
        for name, node in nodes():
            if isinstance(node, ast.FunctionDef):
                handed = {arg.arg for arg in node.args.args}
                for part in ast.walk(node):
                    if isinstance(part, ast.Attribute) and isinstance(part.ctx, ast.Store):
                        self.assertIn(getattr(part.value, "id", ""), handed, f"{name}:{part.lineno}")

    def test_exponents_are_literal_and_small(self):
        for name, node in nodes():
            if isinstance(node, ast.BinOp) and isinstance(node.op, ast.Pow):
                self.assertIsInstance(node.right, ast.Constant, f"{name}:{node.lineno}")
                self.assertLessEqual(node.right.value, 64)

    def test_errors_are_raised_by_their_names(self):
        for name, node in nodes():
            self.assertNotIsInstance(node, ast.Try, name)
            if isinstance(node, ast.Raise):
                self.assertIsInstance(node.exc, ast.Call, f"{name}:{node.lineno}")
                self.assertRegex(getattr(node.exc.func, "id", ""), "^(No|Too)[A-Z][a-z]+$", f"{name}:{node.lineno}")


if __name__ == "__main__":
    unittest.main()
