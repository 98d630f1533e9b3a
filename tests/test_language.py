"""The package keeps to a small part of Python, the same under 3.11 and 3.13.

Looked at here are the rules that a walk through the syntax can see; the rule's
number stands in what a failing test tells.
"""

import ast
import builtins
import io
import pathlib
import re
import tokenize
import unittest

PACKAGE = pathlib.Path(__file__).resolve().parent.parent / "findcourt"

STATEMENTS = (ast.Assign, ast.AugAssign, ast.If, ast.While, ast.For, ast.Return, ast.Break, ast.Continue,
              ast.Pass, ast.Raise, ast.Try, ast.Expr, ast.FunctionDef, ast.ClassDef, ast.ImportFrom)
EXPRESSIONS = (ast.BinOp, ast.UnaryOp, ast.BoolOp, ast.Compare, ast.IfExp, ast.Call, ast.Attribute,
               ast.Subscript, ast.Slice, ast.ListComp, ast.List, ast.Tuple, ast.Dict, ast.Set, ast.Name,
               ast.Constant, ast.JoinedStr, ast.FormattedValue, ast.Lambda)
BUILTINS = """len range enumerate zip min max sum abs sorted reversed int str bool list tuple dict set
    frozenset isinstance ord repr any all divmod Exception ValueError TypeError KeyError IndexError
    LookupError ZeroDivisionError ArithmeticError OverflowError RuntimeError NotImplementedError
    AttributeError StopIteration""".split()
METHODS = """append clear copy count endswith extend find get index insert isalnum isalpha isdigit islower
    isspace isupper items join keys ljust lower lstrip partition pop remove replace reverse rfind rjust
    rpartition rsplit rstrip setdefault split splitlines startswith strip update upper values zfill
    bit_length""".split()
DUNDERS = ["__init__", "__eq__", "__repr__", "__str__", "__len__"]
BANNED_WORDS = """type typing typing_extensions enum Enum IntEnum StrEnum Flag IntFlag Generic Protocol ABC
    ABCMeta namedtuple NamedTuple TypedDict TYPE_CHECKING abstractmethod""".split()
BANNED_PARTS = ["dataclass", "overload", "contextmanager"]
WALKS = ["zip", "enumerate", "reversed", "range"]
WALKING_METHODS = ["items", "keys", "values"]
WALKERS = ["list", "tuple", "dict", "sorted", "sum", "any", "all", "enumerate", "zip", "min", "max"]
BANNED_EVERYWHERE = "register mro elements open input version_info with_traceback add_note".split()
BANNED_NAMES = """attrgetter breakpoint builtins compile copyright credits delattr dir eval exec exit gc getattr
    globals hasattr help id importlib license locals methodcaller os quit setattr super type vars sys
    __name__""".split()
KEYWORDS = {"sorted": ["key", "reverse"], "min": ["key", "default"], "max": ["key", "default"], "sum": ["start"],
            "enumerate": ["start"], "zip": ["strict"]}
VALUE_NAMES = "count index title find get join lower upper split strip copy add".split()


def files():
    return sorted(path for path in PACKAGE.rglob("*") if "__pycache__" not in path.parts)


def trees():
    return [(path, ast.parse(path.read_text(encoding="utf-8"))) for path in files()]


def bound_names(tree):
    """Names that a file binds: parameters, locals, names of its top."""
    names = []
    for node in ast.walk(tree):
        if isinstance(node, ast.Name) and isinstance(node.ctx, ast.Store):
            names.append(node.id)
        elif isinstance(node, ast.arg):
            names.append(node.arg)
        elif isinstance(node, ast.ExceptHandler) and node.name:
            names.append(node.name)
    return names


def top_names(tree):
    names = [node.name for node in tree.body if isinstance(node, (ast.FunctionDef, ast.ClassDef))]
    for node in tree.body:
        if isinstance(node, ast.Assign):
            names.extend(target.id for target in node.targets)
        elif isinstance(node, ast.ImportFrom):
            names.extend(alias.name for alias in node.names)
    return names


def classes():
    return [node for path, tree in trees() for node in tree.body if isinstance(node, ast.ClassDef)]


def parents_of(tree):
    """The node around each node."""
    return {child: node for node in ast.walk(tree) for child in ast.iter_child_nodes(node)}


def drawn_from(tree):
    return [node.module.split(".")[1] for node in tree.body if isinstance(node, ast.ImportFrom)]


def is_walk(node):
    """Whether this is a call whose answer is to be walked on the spot."""
    if not isinstance(node, ast.Call):
        return False
    if isinstance(node.func, ast.Name):
        return node.func.id in WALKS
    return isinstance(node.func, ast.Attribute) and node.func.attr in WALKING_METHODS


def methods_of(node):
    return [part.name for part in node.body if isinstance(part, ast.FunctionDef)]


def values_of(node):
    return [part.attr for part in ast.walk(node)
            if isinstance(part, ast.Attribute) and isinstance(part.ctx, ast.Store)]


class Files(unittest.TestCase):
    def test_names(self):
        self.assertIn(PACKAGE / "__init__.py", files())
        for path in files():
            self.assertRegex(path.name, r"^[a-z0-9_]+\.py$", "L1, L14")
            self.assertFalse(path.stem.startswith("test") or path.stem in dir(builtins), f"L14 {path}")

    def test_signs_and_sizes(self):
        for path in files():
            text = path.read_text(encoding="utf-8")
            self.assertRegex(text, r"\A[ -~\n]*\Z", f"L14 {path}")
            rows = text.split("\n")
            self.assertLessEqual(len(rows), 400, f"L10 {path}")
            self.assertLessEqual(max(len(row) for row in rows), 120, f"L10 {path}")

    def test_words_that_stand_nowhere(self):
        for path in files():
            text = path.read_text(encoding="utf-8")
            for word in BANNED_WORDS:
                self.assertIsNone(re.search(rf"\b{word}\b", text), f"L17 {path} {word}")
            for part in BANNED_PARTS:
                self.assertNotIn(part, text, f"L17 {path}")


class Syntax(unittest.TestCase):
    def test_statements_and_expressions(self):
        for path, tree in trees():
            for node in ast.walk(tree):
                where = f"{path}:{getattr(node, 'lineno', 0)}"
                if isinstance(node, ast.stmt):
                    self.assertIsInstance(node, STATEMENTS, f"L6 {where}")
                if isinstance(node, ast.expr):
                    self.assertIsInstance(node, EXPRESSIONS, f"L7 {where}")
                if isinstance(node, ast.Expr) and node is not tree.body[0]:
                    self.assertIsInstance(node.value, ast.Call, f"L6 {where}")
                if isinstance(node, (ast.For, ast.While)):
                    self.assertEqual(node.orelse, [], f"L6 {where}")
                if isinstance(node, ast.Assign):
                    self.assertEqual(len(node.targets), 1, f"L6 {where}")
                if isinstance(node, ast.Try):
                    self.assertEqual(node.finalbody, [], f"L6 {where}")
                if isinstance(node, ast.ListComp):
                    self.assertEqual(len(node.generators), 1, f"L7 {where}")
                    self.assertLessEqual(len(node.generators[0].ifs), 1, f"L7 {where}")
                if isinstance(node, ast.Constant):
                    self.assertNotIsInstance(node.value, (float, complex, bytes), f"L7 {where}")
                    self.assertFalse(isinstance(node.value, str) and "%" in node.value, f"L27 {where}")
                self.assertNotIsInstance(node, ast.Div, f"L7 {where}")

    def test_the_top_of_a_file(self):
        allowed = (ast.ImportFrom, ast.FunctionDef, ast.ClassDef, ast.Assign)
        for path, tree in trees():
            self.assertTrue(ast.get_docstring(tree), f"L3 {path}")
            for node in tree.body[1:]:
                self.assertIsInstance(node, allowed, f"L3 {path}:{node.lineno}")
            self.assertEqual(len(top_names(tree)), len(set(top_names(tree))), f"L15 {path}")

    def test_imports(self):
        for path, tree in trees():
            for node in ast.walk(tree):
                if isinstance(node, ast.ImportFrom):
                    self.assertIn(node, tree.body, f"L2 {path}")
                    self.assertEqual(node.level, 0, f"L2 {path}")
                    module, stem = node.module.split(".")
                    self.assertEqual(module, PACKAGE.name, f"L2 {path}")
                    drawn = ast.parse((PACKAGE / f"{stem}.py").read_text(encoding="utf-8"))
                    for alias in node.names:
                        self.assertIsNone(alias.asname, f"L2 {path}")
                        self.assertIn(alias.name, [part.name if hasattr(part, "name") else part.targets[0].id
                                                   for part in drawn.body
                                                   if isinstance(part, (ast.FunctionDef, ast.ClassDef, ast.Assign))],
                                      f"L16 {path}")

    def test_functions(self):
        for path, tree in trees():
            for node in ast.walk(tree):
                if isinstance(node, ast.FunctionDef):
                    where = f"{path}:{node.lineno}"
                    self.assertLessEqual(node.end_lineno - node.lineno + 1, 40, f"L10 {where}")
                    self.assertEqual(node.decorator_list, [], f"L4 {where}")
                    shape = node.args
                    self.assertFalse(shape.vararg or shape.kwarg or shape.kwonlyargs or shape.posonlyargs,
                                     f"L4 {where}")


class Names(unittest.TestCase):
    def test_pythons_own_names(self):
        for path, tree in trees():
            known = top_names(tree) + bound_names(tree) + BUILTINS
            for node in ast.walk(tree):
                if isinstance(node, ast.Name):
                    self.assertIn(node.id, known, f"L8 {path}:{node.lineno}")

    def test_bound_names(self):
        for path, tree in trees():
            defs = [node.name for node in ast.walk(tree) if isinstance(node, (ast.FunctionDef, ast.ClassDef))]
            for name in bound_names(tree) + [name for name in defs if name not in DUNDERS]:
                self.assertRegex(name, r"^[A-Za-z][A-Za-z0-9_]*$", f"L12 {path}")
            taken = [node.name for node in tree.body if isinstance(node, ast.ClassDef)]
            for node in tree.body:
                if isinstance(node, ast.ImportFrom):
                    taken.extend(alias.name for alias in node.names)
            for name in bound_names(tree):
                self.assertNotIn(name, taken, f"L15 {path}")
                self.assertNotIn(name, dir(builtins), f"L15 {path}")

    def test_attributes(self):
        own = [name for node in classes() for name in methods_of(node) + values_of(node)]
        for path, tree in trees():
            for node in ast.walk(tree):
                if isinstance(node, ast.Attribute):
                    self.assertIn(node.attr, METHODS + own, f"L25 {path}:{node.lineno}")

    def test_no_name_is_a_method_and_a_value(self):
        methods = [name for node in classes() for name in methods_of(node)]
        values = [name for node in classes() for name in values_of(node)]
        self.assertEqual(set(methods) & set(values), set(), "L18")

    def test_own_methods_and_values(self):
        pythons = [name for kind in (str, int, list, dict, set, bytes, tuple) for name in dir(kind)]
        for node in classes():
            methods = methods_of(node)
            self.assertEqual(len(methods), len(set(methods)), f"L18 {node.name}")
            for name in methods:
                self.assertTrue(name not in pythons or name in METHODS + DUNDERS + ["add", "discard"], f"L26 {name}")
            for name in values_of(node):
                self.assertTrue(name not in pythons + ["args"] or name in VALUE_NAMES, f"L26 {name}")

    def test_names_that_are_not_used(self):
        for path, tree in trees():
            for node in ast.walk(tree):
                if isinstance(node, (ast.Name, ast.Attribute)):
                    name = node.id if isinstance(node, ast.Name) else node.attr
                    self.assertNotIn(name, BANNED_EVERYWHERE, f"L17 {path}:{node.lineno}")
                if isinstance(node, ast.Name):
                    self.assertNotIn(node.id, BANNED_NAMES, f"L17 {path}:{node.lineno}")


class Ways(unittest.TestCase):
    """Rules on how what is there may be used."""

    def test_walked_on_the_spot(self):
        for path, tree in trees():
            parents = parents_of(tree)
            for node in ast.walk(tree):
                if is_walk(node):
                    around = parents[node]
                    walked = isinstance(around, (ast.For, ast.comprehension)) and around.iter is node
                    handed_on = (isinstance(around, ast.Call) and node in around.args[:1]
                                 and getattr(around.func, "id", "") in WALKERS)
                    self.assertTrue(walked or handed_on, f"L23 {path}:{node.lineno}")

    def test_no_file_draws_from_itself(self):
        drawn = {path.stem: drawn_from(tree) for path, tree in trees()}
        while drawn:
            free = [stem for stem in drawn if not any(other in drawn for other in drawn[stem])]
            self.assertTrue(free, f"L16 {sorted(drawn)}")
            for stem in free:
                drawn.pop(stem)

    def test_sets_are_not_used(self):
        for path, tree in trees():
            for node in ast.walk(tree):
                named = isinstance(node, ast.Name) and node.id in ("set", "frozenset")
                self.assertFalse(named or isinstance(node, ast.Set), f"L24 {path}:{getattr(node, 'lineno', 0)}")

    def test_is(self):
        for path, tree in trees():
            for node in ast.walk(tree):
                if isinstance(node, ast.Compare) and isinstance(node.ops[0], (ast.Is, ast.IsNot)):
                    plain = [part.value for part in (node.left, node.comparators[0]) if isinstance(part, ast.Constant)]
                    self.assertTrue(any(value is None or value is True or value is False for value in plain),
                                    f"L20 {path}:{node.lineno}")

    def test_powers(self):
        for path, tree in trees():
            for node in ast.walk(tree):
                if isinstance(node, (ast.BinOp, ast.AugAssign)) and isinstance(node.op, ast.Pow):
                    written = node.right if isinstance(node, ast.BinOp) else node.value
                    self.assertIsInstance(written, ast.Constant, f"L27 {path}:{node.lineno}")
                    self.assertTrue(0 <= written.value <= 64, f"L27 {path}:{node.lineno}")

    def test_escapes(self):
        for path in files():
            for token in tokenize.generate_tokens(io.StringIO(path.read_text(encoding="utf-8")).readline):
                if token.type == tokenize.STRING:
                    for escape in re.findall(r"\\(.|\n)", token.string):
                        self.assertIn(escape, "nt\\\"'", f"L27 {path}:{token.start[0]}")

    def test_keywords(self):
        for path, tree in trees():
            for node in ast.walk(tree):
                if isinstance(node, ast.Call):
                    name = node.func.id if isinstance(node.func, ast.Name) else node.func.attr
                    if name in BUILTINS + METHODS:
                        for keyword in node.keywords:
                            self.assertIn(keyword.arg, KEYWORDS.get(name, []), f"L22 {path}:{node.lineno}")

    def test_errors(self):
        for path, tree in trees():
            for node in ast.walk(tree):
                if isinstance(node, ast.ExceptHandler):
                    self.assertIsInstance(node.type, (ast.Name, ast.Tuple), f"L19 {path}:{node.lineno}")
                    self.assertNotIn(getattr(node.type, "id", ""), ["Exception", "TypeError"], f"L19 {path}")
                if isinstance(node, ast.Raise):
                    self.assertIsInstance(node.exc, ast.Call, f"L19 {path}:{node.lineno}")

    def test_annotations(self):
        for path, tree in trees():
            for node in ast.walk(tree):
                if isinstance(node, ast.FunctionDef):
                    self.assertIsNone(node.returns, f"L21 {path}:{node.lineno}")
                if isinstance(node, ast.arg):
                    self.assertIsNone(node.annotation, f"L21 {path}:{node.lineno}")

    def test_lists_and_dicts_of_the_top(self):
        for path, tree in trees():
            kept = []
            for node in tree.body:
                if isinstance(node, ast.Assign) and isinstance(node.value, (ast.List, ast.Dict)):
                    kept.append(node.targets[0].id)
                    within = [part for part in ast.walk(node.value) if isinstance(part, (ast.List, ast.Dict))]
                    self.assertEqual(within, [node.value], f"L15 {path}:{node.lineno}")
            parents = parents_of(tree)
            for node in ast.walk(tree):
                if isinstance(node, ast.Name) and node.id in kept and isinstance(node.ctx, ast.Load):
                    self.assertIsInstance(parents[node], (ast.Subscript, ast.Attribute, ast.Compare, ast.For, ast.Call),
                                          f"L15 {path}:{node.lineno}")


if __name__ == "__main__":
    unittest.main()
