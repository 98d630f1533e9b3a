"""The package keeps to a small part of Python, the same under 3.11 and 3.13.

Looked at here are the rules that a walk through the syntax can see; the rule's
number stands in what a failing test tells.
"""

import ast
import builtins
import pathlib
import re
import unittest

PACKAGE = pathlib.Path(__file__).resolve().parent.parent / "findcourt"

STATEMENTS = (ast.Assign, ast.AugAssign, ast.If, ast.While, ast.For, ast.Return, ast.Break, ast.Continue,
              ast.Pass, ast.Raise, ast.Try, ast.Expr, ast.FunctionDef, ast.ClassDef, ast.ImportFrom)
EXPRESSIONS = (ast.BinOp, ast.UnaryOp, ast.BoolOp, ast.Compare, ast.IfExp, ast.Call, ast.Attribute,
               ast.Subscript, ast.Slice, ast.ListComp, ast.List, ast.Tuple, ast.Dict, ast.Set, ast.Name,
               ast.Constant, ast.JoinedStr, ast.FormattedValue, ast.Lambda)
BUILTINS = """len range enumerate zip min max sum abs sorted reversed int str bool list tuple dict set
    frozenset isinstance ord repr any all divmod Exception ValueError TypeError KeyError IndexError
    LookupError ZeroDivisionError ArithmeticError OverflowError RuntimeError NotImplementedError
    AttributeError StopIteration""".split()
METHODS = """append clear copy count endswith extend find get index insert isalnum isalpha isdigit islower
    isspace isupper items join keys ljust lower lstrip partition pop remove replace reverse rfind rjust
    rpartition rsplit rstrip setdefault split splitlines startswith strip update upper values zfill
    bit_length""".split()
DUNDERS = ["__init__", "__eq__", "__repr__", "__str__", "__len__"]
BANNED_WORDS = """type typing typing_extensions enum Enum IntEnum StrEnum Flag IntFlag Generic Protocol ABC
    ABCMeta namedtuple NamedTuple TypedDict TYPE_CHECKING abstractmethod""".split()
BANNED_PARTS = ["dataclass", "overload", "contextmanager"]
KEPT_WALKS = ["zip", "enumerate", "reversed", "range"]


def files():
    return sorted(path for path in PACKAGE.rglob("*") if "__pycache__" not in path.parts)


def trees():
    return [(path, ast.parse(path.read_text(encoding="utf-8"))) for path in files()]


def bound_names(tree):
    """Names that a file binds: parameters, locals, names of its top."""
    names = []
    for node in ast.walk(tree):
        if isinstance(node, ast.Name) and isinstance(node.ctx, ast.Store):
            names.append(node.id)
        elif isinstance(node, ast.arg):
            names.append(node.arg)
        elif isinstance(node, ast.ExceptHandler) and node.name:
            names.append(node.name)
    return names


def top_names(tree):
    names = [node.name for node in tree.body if isinstance(node, (ast.FunctionDef, ast.ClassDef))]
    for node in tree.body:
        if isinstance(node, ast.Assign):
            names.extend(target.id for target in node.targets)
        elif isinstance(node, ast.ImportFrom):
            names.extend(alias.name for alias in node.names)
    return names


def classes():
    return [node for path, tree in trees() for node in tree.body if isinstance(node, ast.ClassDef)]


def methods_of(node):
    return [part.name for part in node.body if isinstance(part, ast.FunctionDef)]


def values_of(node):
    return [part.attr for part in ast.walk(node)
            if isinstance(part, ast.Attribute) and isinstance(part.ctx, ast.Store)]


class Files(unittest.TestCase):
    def test_names(self):
        self.assertIn(PACKAGE / "__init__.py", files())
        for path in files():
            self.assertRegex(path.name, r"^[a-z0-9_]+\.py$", "L1, L14")
            self.assertFalse(path.stem.startswith("test") or path.stem in dir(builtins), f"L14 {path}")

    def test_signs_and_sizes(self):
        for path in files():
            text = path.read_text(encoding="utf-8")
            self.assertRegex(text, r"\A[ -~\n]*\Z", f"L14 {path}")
            rows = text.split("\n")
            self.assertLessEqual(len(rows), 400, f"L10 {path}")
            self.assertLessEqual(max(len(row) for row in rows), 120, f"L10 {path}")

    def test_words_that_stand_nowhere(self):
        for path in files():
            text = path.read_text(encoding="utf-8")
            for word in BANNED_WORDS:
                self.assertIsNone(re.search(rf"\b{word}\b", text), f"L17 {path} {word}")
            for part in BANNED_PARTS:
                self.assertNotIn(part, text, f"L17 {path}")


class Syntax(unittest.TestCase):
    def test_statements_and_expressions(self):
        for path, tree in trees():
            for node in ast.walk(tree):
                where = f"{path}:{getattr(node, 'lineno', 0)}"
                if isinstance(node, ast.stmt):
                    self.assertIsInstance(node, STATEMENTS, f"L6 {where}")
                if isinstance(node, ast.expr):
                    self.assertIsInstance(node, EXPRESSIONS, f"L7 {where}")
                if isinstance(node, ast.Expr) and node is not tree.body[0]:
                    self.assertIsInstance(node.value, ast.Call, f"L6 {where}")
                if isinstance(node, (ast.For, ast.While)):
                    self.assertEqual(node.orelse, [], f"L6 {where}")
                if isinstance(node, ast.Assign):
                    self.assertEqual(len(node.targets), 1, f"L6 {where}")
                if isinstance(node, ast.Try):
                    self.assertEqual(node.finalbody, [], f"L6 {where}")
                if isinstance(node, ast.ListComp):
                    self.assertEqual(len(node.generators), 1, f"L7 {where}")
                    self.assertLessEqual(len(node.generators[0].ifs), 1, f"L7 {where}")
                if isinstance(node, ast.Constant):
                    self.assertNotIsInstance(node.value, (float, complex, bytes), f"L7 {where}")
                    self.assertFalse(isinstance(node.value, str) and "%" in node.value, f"L27 {where}")
                self.assertNotIsInstance(node, ast.Div, f"L7 {where}")

    def test_the_top_of_a_file(self):
        allowed = (ast.ImportFrom, ast.FunctionDef, ast.ClassDef, ast.Assign)
        for path, tree in trees():
            self.assertTrue(ast.get_docstring(tree), f"L3 {path}")
            for node in tree.body[1:]:
                self.assertIsInstance(node, allowed, f"L3 {path}:{node.lineno}")
            self.assertEqual(len(top_names(tree)), len(set(top_names(tree))), f"L15 {path}")

    def test_imports(self):
        for path, tree in trees():
            for node in ast.walk(tree):
                if isinstance(node, ast.ImportFrom):
                    self.assertIn(node, tree.body, f"L2 {path}")
                    self.assertEqual(node.level, 0, f"L2 {path}")
                    module, stem = node.module.split(".")
                    self.assertEqual(module, PACKAGE.name, f"L2 {path}")
                    drawn = ast.parse((PACKAGE / f"{stem}.py").read_text(encoding="utf-8"))
                    for alias in node.names:
                        self.assertIsNone(alias.asname, f"L2 {path}")
                        self.assertIn(alias.name, [part.name if hasattr(part, "name") else part.targets[0].id
                                                   for part in drawn.body
                                                   if isinstance(part, (ast.FunctionDef, ast.ClassDef, ast.Assign))],
                                      f"L16 {path}")

    def test_functions(self):
        for path, tree in trees():
            for node in ast.walk(tree):
                if isinstance(node, ast.FunctionDef):
                    where = f"{path}:{node.lineno}"
                    self.assertLessEqual(node.end_lineno - node.lineno + 1, 40, f"L10 {where}")
                    self.assertEqual(node.decorator_list, [], f"L4 {where}")
                    shape = node.args
                    self.assertFalse(shape.vararg or shape.kwarg or shape.kwonlyargs or shape.posonlyargs,
                                     f"L4 {where}")


class Names(unittest.TestCase):
    def test_pythons_own_names(self):
        for path, tree in trees():
            known = top_names(tree) + bound_names(tree) + BUILTINS
            for node in ast.walk(tree):
                if isinstance(node, ast.Name):
                    self.assertIn(node.id, known, f"L8 {path}:{node.lineno}")

    def test_bound_names(self):
        for path, tree in trees():
            defs = [node.name for node in ast.walk(tree) if isinstance(node, (ast.FunctionDef, ast.ClassDef))]
            for name in bound_names(tree) + [name for name in defs if name not in DUNDERS]:
                self.assertRegex(name, r"^[A-Za-z][A-Za-z0-9_]*$", f"L12 {path}")
            taken = [node.name for node in tree.body if isinstance(node, ast.ClassDef)]
            for node in tree.body:
                if isinstance(node, ast.ImportFrom):
                    taken.extend(alias.name for alias in node.names)
            for name in bound_names(tree):
                self.assertNotIn(name, taken, f"L15 {path}")
                self.assertNotIn(name, dir(builtins), f"L15 {path}")

    def test_attributes(self):
        own = [name for node in classes() for name in methods_of(node) + values_of(node)]
        for path, tree in trees():
            for node in ast.walk(tree):
                if isinstance(node, ast.Attribute):
                    self.assertIn(node.attr, METHODS + own, f"L25 {path}:{node.lineno}")

    def test_no_name_is_a_method_and_a_value(self):
        methods = [name for node in classes() for name in methods_of(node)]
        values = [name for node in classes() for name in values_of(node)]
        self.assertEqual(set(methods) & set(values), set(), "L18")

    def test_walks_are_not_kept(self):
        for path, tree in trees():
            for node in ast.walk(tree):
                if isinstance(node, (ast.Assign, ast.Return)) and isinstance(node.value, ast.Call):
                    self.assertNotIn(getattr(node.value.func, "id", ""), KEPT_WALKS, f"L23 {path}:{node.lineno}")


if __name__ == "__main__":
    unittest.main()
