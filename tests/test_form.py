"""The form of the package's own files, as far as a test can see it."""

import ast
import pathlib
import re
import unittest

TOP = pathlib.Path(__file__).resolve().parent.parent
PACKAGE = TOP / "piecelay"
FILES = sorted(PACKAGE.glob("*.py"))

OWN_NAMES = """len range enumerate zip min max sum abs sorted reversed int str bool bytes list tuple dict set frozenset
isinstance ord repr any all divmod Exception ValueError KeyError IndexError LookupError ZeroDivisionError
ArithmeticError OverflowError RuntimeError NotImplementedError StopIteration""".split()

OWN_METHODS = """append clear copy count endswith extend find get index insert isalnum isalpha isdigit islower isspace
isupper items join keys ljust lower lstrip partition pop remove replace reverse rfind rjust rpartition rsplit rstrip
setdefault split splitlines startswith strip update upper values zfill bit_length add discard""".split()

NO_WORDS = """type typing typing_extensions enum Enum IntEnum StrEnum Flag IntFlag Generic Protocol ABC ABCMeta
namedtuple NamedTuple TypedDict TYPE_CHECKING abstractmethod""".split()

NODES = """Module Expr Constant ImportFrom alias FunctionDef arguments arg ClassDef Assign AugAssign If While For Return
Break Continue Pass Raise Try ExceptHandler Call keyword Name Load Store Attribute Subscript Slice Tuple List Dict Set
BoolOp And Or UnaryOp Not USub BinOp Add Sub Mult FloorDiv Mod BitAnd BitOr BitXor LShift RShift Compare Eq NotEq Lt LtE
Gt GtE In NotIn Is IsNot IfExp ListComp DictComp SetComp comprehension JoinedStr FormattedValue Lambda Assert Delete Del
Starred""".split()


def parsed(path):
    return ast.parse(path.read_text(encoding="ascii"))


def drawn_from(path):
    return [row.module for row in ast.walk(parsed(path)) if isinstance(row, ast.ImportFrom)]


class FormTest(unittest.TestCase):
    def test_what_lies_in_the_package(self):
        there = sorted(path.name for path in PACKAGE.iterdir() if path.name != "__pycache__")
        self.assertEqual(there, [path.name for path in FILES])
        for name in ["__init__.py", "errors.py", "trees.py", "machine.py", "pieces.py", "covers.py", "laying.py",
                     "sharing.py", "shops.py"]:
            self.assertIn(name, there)

    def test_signs_and_lengths(self):
        for path in FILES:
            text = path.read_text(encoding="ascii")
            self.assertRegex(text, r"\A[ -~\n]*\Z", path.name)
            self.assertLessEqual(len(text.splitlines()), 400, path.name)
            self.assertLessEqual(max(len(line) for line in text.splitlines()), 120, path.name)
            for node in ast.walk(parsed(path)):
                if isinstance(node, ast.FunctionDef):
                    self.assertLessEqual(node.end_lineno - node.lineno + 1, 40, (path.name, node.name))

    def test_words_that_stand_nowhere(self):
        for path in FILES:
            words = re.findall(r"\w+", path.read_text(encoding="ascii"))
            self.assertEqual([word for word in words if word in NO_WORDS], [], path.name)

    def test_kinds_of_rows_and_expressions(self):
        for path in FILES:
            for node in ast.walk(parsed(path)):
                self.assertIn(type(node).__name__, NODES, (path.name, getattr(node, "lineno", 0)))
                if isinstance(node, ast.Constant):
                    self.assertNotIsInstance(node.value, (float, complex))
                    self.assertNotIn("%", str(node.value))

    def test_imports_are_own_ones_and_draw_no_ring(self):
        behind = {f"piecelay.{path.stem}": drawn_from(path) for path in FILES}
        self.assertEqual(behind["piecelay.__init__"], [])
        done = set()
        while len(done) < len(behind):
            ready = [name for name in behind if name not in done and all(other in done for other in behind[name])]
            self.assertTrue(ready, "files that draw from one another, or from elsewhere")
            done.update(ready)

    def test_names_are_bound_once_at_the_top(self):
        for path in FILES:
            names = []
            for row in parsed(path).body:
                if isinstance(row, ast.Assign):
                    names.extend(target.id for target in row.targets)
                elif isinstance(row, ast.ImportFrom):
                    names.extend(alias.asname or alias.name for alias in row.names)
                elif isinstance(row, (ast.FunctionDef, ast.ClassDef)):
                    names.append(row.name)
            self.assertEqual(len(names), len(set(names)), path.name)

    def test_no_name_is_private_or_pythons_own(self):
        pythons = set(dir(__import__("builtins")))
        for path in FILES:
            for node in ast.walk(parsed(path)):
                given = []
                if isinstance(node, ast.Name):
                    given = [node.id] if isinstance(node.ctx, ast.Store) else []
                    if isinstance(node.ctx, ast.Load) and node.id in pythons:
                        self.assertIn(node.id, OWN_NAMES, path.name)
                elif isinstance(node, ast.arg):
                    given = [node.arg]
                elif isinstance(node, (ast.FunctionDef, ast.ClassDef)):
                    given = [node.name]
                for name in given:
                    self.assertNotIn(name, pythons, path.name)
                    self.assertTrue(name in ("__init__", "__len__") or not name.startswith("_"), (path.name, name))

    def test_methods_are_known_ones(self):
        trees = [parsed(path) for path in FILES]
        classes = [node for tree in trees for node in ast.walk(tree) if isinstance(node, ast.ClassDef)]
        methods = {row.name for node in classes for row in node.body if isinstance(row, ast.FunctionDef)}
        fields = {node.attr for tree in trees for node in ast.walk(tree)
                  if isinstance(node, ast.Attribute) and isinstance(node.ctx, ast.Store)}
        self.assertEqual(methods & fields, set())
        for tree in trees:
            for node in ast.walk(tree):
                if isinstance(node, ast.Attribute):
                    self.assertIn(node.attr, methods | fields | set(OWN_METHODS))
