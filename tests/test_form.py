"""The form that the package's own files keep to, as far as it's easily seen."""

import ast
import pathlib
import re
import unittest

FOLDER = pathlib.Path(__file__).resolve().parent.parent / "acrosstongues"
FILES = sorted(path for path in FOLDER.iterdir() if path.name != "__pycache__")

NODES = (
    "Module Expr Constant ImportFrom alias FunctionDef arguments arg ClassDef Assign Name Load Store Attribute "
    "Subscript Slice If While For Return Break Continue Pass Call keyword Lambda BinOp Add Sub Mult FloorDiv Mod "
    "UnaryOp USub Not BoolOp And Or Compare Eq NotEq Lt LtE Gt GtE In NotIn Is IsNot IfExp List Tuple Dict ListComp "
    "comprehension BitAnd BitOr"
).split()

BUILT_IN = "len range enumerate zip min max sum abs sorted reversed int str list tuple dict set any all divmod".split()

METHODS = "append extend get index items keys pop setdefault values".split()

WORDS = (
    "type typing typing_extensions enum Enum IntEnum StrEnum Flag IntFlag Generic Protocol ABC ABCMeta namedtuple "
    "NamedTuple TypedDict TYPE_CHECKING abstractmethod"
).split()


def own_methods(trees):
    return [part.name for tree in trees for node in ast.walk(tree) if isinstance(node, ast.ClassDef)
            for part in node.body]


class FormTest(unittest.TestCase):
    def setUp(self):
        self.texts = {path.name: path.read_text(encoding="utf-8") for path in FILES}
        self.trees = {name: ast.parse(self.texts[name]) for name in self.texts}

    def test_files(self):
        self.assertIn("__init__.py", self.texts)
        for name in self.texts:
            self.assertRegex(name, r"^[a-z_0-9]+\.py$")

    def test_size_and_signs(self):
        for name, text in self.texts.items():
            lines = text.splitlines()
            self.assertTrue(len(lines) <= 400, name)
            for line in lines:
                self.assertTrue(len(line) <= 120, (name, line))
            self.assertRegex(text, r"^[ -~\n]*$", name)
            self.assertFalse(set(re.findall(r"\w+", text)) & set(WORDS), name)

    def test_functions_are_short(self):
        for name, tree in self.trees.items():
            for node in ast.walk(tree):
                if isinstance(node, ast.FunctionDef):
                    self.assertTrue(node.end_lineno - node.lineno < 40, (name, node.name))

    def test_only_plain_nodes(self):
        for name, tree in self.trees.items():
            for node in ast.walk(tree):
                self.assertIn(type(node).__name__, NODES, (name, getattr(node, "lineno", 0)))
                if isinstance(node, ast.Constant):
                    self.assertIn(type(node.value), (int, str, bool, type(None)), name)
                if isinstance(node, ast.Expr) and node is not tree.body[0]:
                    self.assertIsInstance(node.value, ast.Call, (name, node.lineno))

    def test_imports_are_the_package_s_own_and_never_in_a_ring(self):
        drawn = {}
        for name, tree in self.trees.items():
            rows = [node for node in ast.walk(tree) if isinstance(node, ast.ImportFrom)]
            self.assertTrue(all(node in tree.body and node.level == 0 for node in rows), name)
            drawn[name] = [node.module.removeprefix("acrosstongues.") + ".py" for node in rows]
        while drawn:
            free = [name for name in drawn if not set(drawn[name]) & set(drawn)]
            self.assertTrue(free, drawn)
            drawn = {name: drawn[name] for name in drawn if name not in free}

    def test_names(self):
        methods = METHODS + own_methods(self.trees.values())
        for name, tree in self.trees.items():
            bound = [node.id for node in ast.walk(tree) if isinstance(node, ast.Name) and isinstance(node.ctx, ast.Store)]
            bound += [node.arg for node in ast.walk(tree) if isinstance(node, ast.arg)]
            bound += [node.name for node in ast.walk(tree) if isinstance(node, (ast.FunctionDef, ast.ClassDef))]
            drawn = [node.name for node in ast.walk(tree) if isinstance(node, ast.alias)]
            self.assertFalse(set(bound) & set(drawn), name)
            self.assertFalse(set(bound) & set(dir(__builtins__) if not isinstance(__builtins__, dict)
                                              else __builtins__), name)
            for node in ast.walk(tree):
                if isinstance(node, ast.Name) and isinstance(node.ctx, ast.Load):
                    self.assertIn(node.id, bound + drawn + BUILT_IN, (name, node.lineno))
                if isinstance(node, ast.Call) and isinstance(node.func, ast.Attribute):
                    self.assertIn(node.func.attr, methods, (name, node.lineno))
