"""The package's files keep to the small part of Python: what of its rules can be seen at once."""

import ast
import builtins
import pathlib
import re
import unittest

FOLDER = pathlib.Path(__file__).resolve().parent.parent / "funsasvalues"
FILES = sorted(path for path in FOLDER.iterdir() if path.name != "__pycache__")
ALLOWED_NAMES = set(
    "len range enumerate zip min max sum abs sorted reversed int str bool list tuple dict set frozenset isinstance "
    "ord repr any all divmod Exception ValueError TypeError KeyError IndexError LookupError ZeroDivisionError "
    "ArithmeticError OverflowError RuntimeError NotImplementedError StopIteration".split()
)
ALLOWED_STATEMENTS = (
    ast.Assign, ast.AugAssign, ast.If, ast.While, ast.For, ast.Return, ast.Break, ast.Continue, ast.Pass, ast.Raise,
    ast.Try, ast.Expr, ast.FunctionDef, ast.ClassDef, ast.ImportFrom,
)
UNUSED_EXPRESSIONS = (
    ast.Starred, ast.NamedExpr, ast.GeneratorExp, ast.SetComp, ast.DictComp, ast.Yield, ast.Await, ast.Div, ast.Set,
)
UNUSED_WORDS = re.compile(
    r"\b(type|typing|enum|Enum|Flag|Generic|Protocol|ABC|namedtuple|NamedTuple|abstractmethod)\b"
    r"|dataclass|overload|contextmanager"
)
UNUSED_NAMES = {"register", "mro", "elements", "open", "input", "version_info", "chr", "id", "super", "eval", "exec"}
METHODS = set(
    "append clear copy count endswith extend find get index insert isalnum isalpha isdigit islower isspace isupper "
    "items join keys ljust lower lstrip partition pop remove replace reverse rfind rjust rpartition rsplit rstrip "
    "setdefault split splitlines startswith strip update upper values zfill bit_length".split()
)


def trees():
    return [(path.name, ast.parse(path.read_text(encoding="ascii"))) for path in FILES]


class Language(unittest.TestCase):
    def test_files(self):
        for path in FILES:
            self.assertRegex(path.name, r"^[a-z_0-9]+\.py$")

    def test_signs_and_lengths(self):
        for path in FILES:
            text = path.read_text(encoding="utf-8")
            self.assertRegex(text, r"\A[ -~\n]*\Z", path.name)
            self.assertIsNone(UNUSED_WORDS.search(text), path.name)
            rows = text.split("\n")
            self.assertLessEqual(len(rows), 400, path.name)
            self.assertLessEqual(max(map(len, rows)), 120, path.name)

    def test_imports(self):
        for name, tree in trees():
            for node in ast.walk(tree):
                if isinstance(node, ast.ImportFrom):
                    self.assertEqual(node.level, 0, name)
                    self.assertTrue(node.module.startswith("funsasvalues."), name)

    def test_statements_and_expressions(self):
        for name, tree in trees():
            for node in ast.walk(tree):
                place = (name, getattr(node, "lineno", 0))
                if isinstance(node, ast.stmt):
                    self.assertIsInstance(node, ALLOWED_STATEMENTS, place)
                self.assertNotIsInstance(node, UNUSED_EXPRESSIONS, place)
                if isinstance(node, (ast.While, ast.For)):
                    self.assertEqual(node.orelse, [], place)
                if isinstance(node, ast.Constant):
                    self.assertNotIsInstance(node.value, (float, bytes, complex), place)

    def test_functions_are_small(self):
        for name, tree in trees():
            for node in ast.walk(tree):
                if isinstance(node, ast.FunctionDef):
                    self.assertLessEqual(node.end_lineno - node.lineno + 1, 40, (name, node.name))
                    self.assertEqual(node.decorator_list, [], (name, node.name))

    def test_names(self):
        for name, tree in trees():
            for node in ast.walk(tree):
                if isinstance(node, ast.Name):
                    self.assertFalse(node.id.startswith("_") or node.id in UNUSED_NAMES, (name, node.id))
                    if hasattr(builtins, node.id):
                        self.assertIn(node.id, ALLOWED_NAMES, name)
                        self.assertIsInstance(node.ctx, ast.Load, (name, node.id))
                if isinstance(node, ast.arg):
                    self.assertFalse(hasattr(builtins, node.arg), (name, node.arg))

    def test_methods_and_values_of_objects(self):
        methods = {"__init__"}
        stored = set()
        called = set()
        for _, tree in trees():
            for node in ast.walk(tree):
                if isinstance(node, ast.ClassDef):
                    methods |= {part.name for part in node.body if isinstance(part, ast.FunctionDef)}
                if isinstance(node, ast.Attribute) and isinstance(node.ctx, ast.Store):
                    self.assertIsInstance(node.value, ast.Name)
                    stored.add(node.attr)
                if isinstance(node, ast.Call) and isinstance(node.func, ast.Attribute):
                    called.add(node.func.attr)
        self.assertEqual(methods & stored, set())
        self.assertEqual(called - methods - METHODS, set())

    def test_the_tops_of_modules(self):
        for name, tree in trees():
            bound = []
            for part in tree.body:
                if isinstance(part, ast.Assign):
                    ast.literal_eval(part.value)
                    self.assertEqual(len(part.targets), 1, name)
                    bound.append(part.targets[0].id)
                elif isinstance(part, ast.ImportFrom):
                    bound += [alias.name for alias in part.names]
                elif isinstance(part, (ast.FunctionDef, ast.ClassDef)):
                    bound.append(part.name)
                else:
                    self.assertIsInstance(part.value, ast.Constant, name)
            self.assertEqual(len(bound), len(set(bound)), name)

    def test_locals_are_not_called_like_what_stands_at_the_top(self):
        for name, tree in trees():
            top = {alias.name for part in tree.body if isinstance(part, ast.ImportFrom) for alias in part.names}
            top |= {part.name for part in tree.body if isinstance(part, (ast.FunctionDef, ast.ClassDef))}
            for node in ast.walk(tree):
                if isinstance(node, ast.Name) and isinstance(node.ctx, ast.Store):
                    self.assertNotIn(node.id, top, name)
                if isinstance(node, ast.arg):
                    self.assertNotIn(node.arg, top, name)

    def test_imports_are_of_the_file_that_defines_the_name(self):
        defined = {}
        for name, tree in trees():
            own = {part.name for part in tree.body if isinstance(part, (ast.FunctionDef, ast.ClassDef))}
            own |= {part.targets[0].id for part in tree.body if isinstance(part, ast.Assign)}
            defined["funsasvalues." + name.removesuffix(".py")] = own
        for name, tree in trees():
            for part in tree.body:
                if isinstance(part, ast.ImportFrom):
                    self.assertEqual({alias.name for alias in part.names} - defined[part.module], set(), name)

    def test_sets_are_not_kept(self):
        for name, tree in trees():
            asked = [node.args[0] for node in ast.walk(tree) if is_call_of(node, ("len", "sorted"))]
            for node in ast.walk(tree):
                if is_call_of(node, ("set", "frozenset")):
                    self.assertIn(node, asked, (name, node.lineno))

    def test_texts(self):
        for name, tree in trees():
            for node in ast.walk(tree):
                if isinstance(node, ast.Constant) and isinstance(node.value, str):
                    self.assertNotIn("%", node.value, (name, node.lineno))


def is_call_of(node, names):
    return isinstance(node, ast.Call) and isinstance(node.func, ast.Name) and node.func.id in names


if __name__ == "__main__":
    unittest.main()
