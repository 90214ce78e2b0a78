"""The package keeps to its small part of Python; these are the rules that are plain to see in a syntax tree."""

import ast
import pathlib
import re
import unittest

PACKAGE = pathlib.Path(__file__).resolve().parent.parent / "pricesright"
FILES = sorted(PACKAGE.glob("*.py"))
NODES = (
    "Module Expr Constant ImportFrom alias FunctionDef arguments arg ClassDef Return Assign AugAssign Load Store Name "
    "Attribute Subscript Slice Call If While For Break Continue Pass Tuple List Dict ListComp comprehension IfExp "
    "BoolOp And Or UnaryOp Not USub BinOp Add Sub Mult FloorDiv Mod Compare Eq NotEq Lt LtE Gt GtE In NotIn keyword"
).split()
OWN_NAMES = "len range enumerate zip min max sum abs sorted reversed int list tuple dict any all divmod".split()
METHODS = "append copy extend get insert items keys values".split()
WORDS = "type typing enum Enum Flag Generic Protocol ABC namedtuple dataclass overload contextmanager".split()
NO_NAMES = "register mro elements open input id dir vars super eval exec exit help".split()


def tree_of(path):
    return ast.parse(path.read_text(encoding="utf-8"))


def nodes_of(kind):
    return [node for path in FILES for node in ast.walk(tree_of(path)) if isinstance(node, kind)]


def own_names():
    found = {node.id for node in nodes_of(ast.Name) if isinstance(node.ctx, ast.Store)}
    found |= {node.arg for node in nodes_of(ast.arg)}
    return found | {node.name for node in nodes_of((ast.FunctionDef, ast.ClassDef))}


def methods():
    return {part.name for node in nodes_of(ast.ClassDef) for part in node.body if isinstance(part, ast.FunctionDef)}


class Language(unittest.TestCase):
    def test_nothing_else_lies_in_the_package(self):
        here = [path for path in PACKAGE.iterdir() if path.name != "__pycache__"]
        self.assertEqual(sorted(here), FILES)
        for path in FILES:
            self.assertRegex(path.name, r"^(__init__|[a-z][a-z0-9_]*)\.py$")

    def test_sizes_and_signs(self):
        for path in FILES:
            text = path.read_text(encoding="utf-8")
            self.assertRegex(text, r"\A[ -~\n]*\Z")
            self.assertLessEqual(len(text.splitlines()), 400)
            self.assertLessEqual(max(len(line) for line in text.splitlines()), 120)
        for node in nodes_of(ast.FunctionDef):
            self.assertLessEqual(node.end_lineno - node.lineno + 1, 40)

    def test_words(self):
        for path in FILES:
            for word in WORDS:
                self.assertIsNone(re.search(rf"\b{word}\b", path.read_text(encoding="utf-8")), (path.name, word))

    def test_statements_and_expressions(self):
        for node in nodes_of(ast.AST):
            self.assertIn(type(node).__name__, NODES)
        for node in nodes_of((ast.While, ast.For)):
            self.assertEqual(node.orelse, [])
        for node in nodes_of(ast.Assign):
            self.assertEqual(len(node.targets), 1)
        for node in nodes_of(ast.Constant):
            self.assertIn(type(node.value), (int, str, bool, type(None)))
        for node in nodes_of(ast.FunctionDef):
            self.assertEqual((node.decorator_list, node.args.vararg, node.args.kwarg, node.args.kwonlyargs),
                             ([], None, None, []))

    def test_imports(self):
        for node in nodes_of(ast.ImportFrom):
            self.assertEqual(node.level, 0)
            module = node.module.split(".")
            self.assertEqual(module[0], "pricesright")
            defined = set()
            for part in tree_of(PACKAGE / (module[1] + ".py")).body:
                defined |= {part.name} if isinstance(part, (ast.FunctionDef, ast.ClassDef)) else set()
                defined |= {part.targets[0].id} if isinstance(part, ast.Assign) else set()
            for name in node.names:
                self.assertIn(name.name, defined)
                self.assertIsNone(name.asname)

    def test_names(self):
        for name in own_names():
            self.assertRegex(name, r"^(__init__|[A-Za-z][A-Za-z0-9_]*)$")
            self.assertNotIn(name, NO_NAMES)
            self.assertNotIn(name, __builtins__ if isinstance(__builtins__, dict) else vars(__builtins__))
        imported = {name.name for node in nodes_of(ast.ImportFrom) for name in node.names}
        known = own_names() | imported | set(OWN_NAMES)
        for node in nodes_of(ast.Name):
            self.assertIn(node.id, known)

    def test_methods_and_values(self):
        stored = {node.attr for node in nodes_of(ast.Attribute) if isinstance(node.ctx, ast.Store)}
        self.assertEqual(stored & methods(), set())
        for name in stored | methods() - {"__init__"}:
            for kind in (str, int, list, dict, set, bytes, tuple):
                self.assertFalse(hasattr(kind, name), name)
        known = METHODS + sorted(methods())
        for node in nodes_of(ast.Call):
            if isinstance(node.func, ast.Attribute):
                self.assertIn(node.func.attr, known)


if __name__ == "__main__":
    unittest.main()
