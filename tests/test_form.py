"""The form of the package's files: the rules of the language that a look at the code can see."""

import ast
import builtins
import pathlib
import re
import unittest

TOP = pathlib.Path(__file__).resolve().parent.parent / "twinwalk"
OWN_NAMES = set("""len range enumerate zip min max sum abs sorted reversed int str bool bytes list tuple dict set
    frozenset isinstance ord repr any all divmod Exception ValueError TypeError KeyError IndexError LookupError
    ZeroDivisionError ArithmeticError OverflowError RuntimeError NotImplementedError AttributeError
    StopIteration""".split())
METHODS = set("""append clear copy count endswith extend find get index insert isalnum isalpha isdigit islower
    isspace isupper items join keys ljust lower lstrip partition pop remove replace reverse rfind rjust rpartition
    rsplit rstrip setdefault split splitlines startswith strip update upper values zfill add discard sort""".split())
OUT = set("""AsyncFor AsyncFunctionDef AsyncWith Await GeneratorExp Global Import Match
    NamedExpr Nonlocal With Yield YieldFrom Div MatMult""".split())
WORDS = set("""type typing typing_extensions enum Enum IntEnum StrEnum Flag IntFlag Generic Protocol ABC ABCMeta
    namedtuple NamedTuple TypedDict TYPE_CHECKING abstractmethod""".split())
NEVER = set("register mro elements open input version_info with_traceback add_note chr".split())


def files():
    return sorted(path for path in TOP.rglob("*") if path.is_file() and "__pycache__" not in path.parts)


def trees():
    return [(path.name, ast.parse(path.read_text())) for path in files()]


def given_names(tree):
    """Every name that a file gives a meaning: defs, classes, parameters, targets."""
    names = []
    for node in ast.walk(tree):
        if isinstance(node, (ast.FunctionDef, ast.ClassDef)):
            names.append(node.name)
        elif isinstance(node, ast.arg):
            names.append(node.arg)
        elif isinstance(node, ast.Name) and isinstance(node.ctx, ast.Store):
            names.append(node.id)
    return names


def value_names(tree):
    """The values that objects are given."""
    return [node.attr for node in ast.walk(tree) if isinstance(node, ast.Attribute) and isinstance(node.ctx, ast.Store)]


def method_names(tree):
    return [node.name for top in tree.body if isinstance(top, ast.ClassDef)
            for node in top.body if isinstance(node, ast.FunctionDef)]


def names_of(told):
    names = set()
    for name, tree in trees():
        names.update(told(tree))
    return names


class Form(unittest.TestCase):
    def test_files(self):
        self.assertIn(TOP / "__init__.py", files())
        for path in files():
            self.assertRegex(path.name, r"\A(__init__|__main__|[a-z][a-z0-9_]*)\.py\Z")

    def test_rows_and_signs(self):
        for path in files():
            rows = path.read_text().split("\n")
            self.assertLessEqual(len(rows), 401, path)
            for row in rows:
                self.assertRegex(row, r"\A[ -~]{0,120}\Z", path)
            words = set(re.findall(r"\w+", path.read_text()))
            self.assertEqual(sorted(words & WORDS), [], path)

    def test_lengths_of_functions(self):
        for name, tree in trees():
            for node in ast.walk(tree):
                if isinstance(node, ast.FunctionDef):
                    self.assertLessEqual(node.end_lineno - node.lineno + 1, 40, name + " " + node.name)

    def test_tops(self):
        plain = (ast.ImportFrom, ast.FunctionDef, ast.ClassDef, ast.Assign)
        for name, tree in trees():
            self.assertIsNotNone(ast.get_docstring(tree), name)
            for node in tree.body[1:]:
                self.assertIsInstance(node, plain, name)

    def test_imports(self):
        for name, tree in trees():
            for node in ast.walk(tree):
                if isinstance(node, ast.ImportFrom):
                    self.assertEqual(node.level, 0, name)
                    self.assertIn(TOP / (node.module.split(".")[1] + ".py"), files(), name)

    def test_forms_that_are_out(self):
        for name, tree in trees():
            for node in ast.walk(tree):
                self.assertNotIn(node.__class__.__name__, OUT, f"{name} {getattr(node, 'lineno', '')}")
                if isinstance(node, ast.Constant):
                    self.assertNotIsInstance(node.value, (float, complex), name)
                    self.assertNotIn("%", str(node.value), name)
                if isinstance(node, ast.FormattedValue):
                    self.assertIsNone(node.format_spec, name)
                if isinstance(node, (ast.FunctionDef, ast.ClassDef)):
                    self.assertEqual(node.decorator_list, [], name)

    def test_names(self):
        own, objects = names_of(given_names), names_of(value_names) | names_of(method_names)
        for name, tree in trees():
            for given in given_names(tree):
                self.assertNotIn(given, NEVER, name)
                self.assertNotIn(given, vars(builtins), name)
                self.assertRegex(given, r"\A([A-Za-z]\w*|__init__)\Z", name)
            drawn = {alias.name for node in ast.walk(tree) if isinstance(node, ast.ImportFrom) for alias in node.names}
            self.assertEqual(sorted(drawn & set(given_names(tree))), [], name)
            for node in ast.walk(tree):
                if isinstance(node, ast.Name):
                    self.assertIn(node.id, own | OWN_NAMES, name)
                if isinstance(node, ast.Attribute):
                    self.assertIn(node.attr, objects | METHODS, name)

    def test_methods_and_values(self):
        values, methods = names_of(value_names), names_of(method_names) - {"__init__"}
        self.assertEqual(sorted(values & methods), [])
        python = set(dir(str) + dir(int) + dir(list) + dir(dict) + dir(set) + dir(bytes))
        self.assertEqual(sorted((values | methods) & python), [])


if __name__ == "__main__":
    unittest.main()
