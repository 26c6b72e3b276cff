"""Some of the rules of LANGUAGE.md that can be told from the files of the package."""

import ast
import re
import unittest
from pathlib import Path

import overtaken

PACKAGE = Path(overtaken.__file__).resolve().parent
FILES = sorted(PACKAGE.rglob("*.py"))

LIBRARY = {"__future__", "heapq", "math", "itertools", "collections"}
DOUBLE = set(
    "init eq repr str len enter exit call iter lt le gt ge ne add sub mul floordiv mod pow and or xor lshift rshift "
    "radd rsub rmul rfloordiv rmod rand ror rxor rlshift rrshift iadd isub imul ifloordiv imod ipow iand ior ixor "
    "ilshift irshift neg pos invert abs bool contains getitem setitem slots class name".split()
)
BUILTINS = set(
    "len range enumerate zip min max sum abs sorted reversed int str bool bytes list tuple dict set frozenset "
    "isinstance ord repr any all divmod pow getattr hasattr setattr iter next map super property staticmethod "
    "classmethod Exception ValueError TypeError KeyError IndexError LookupError ZeroDivisionError ArithmeticError "
    "OverflowError RuntimeError NotImplementedError AttributeError StopIteration NotImplemented".split()
)
BANNED = re.compile(r"\b(register|mro|elements|open|input|law|type|typing|enum|print|eval|exec|global|async)\b")
STATEMENTS = (
    ast.Global, ast.AsyncFunctionDef, ast.AsyncFor, ast.AsyncWith, ast.Await, ast.Div, ast.MatMult, ast.TryStar,
    ast.Import,
)


def nodes(path, *kinds):
    return [node for node in ast.walk(ast.parse(path.read_text())) if isinstance(node, kinds)]


def docstrings(path):
    """The places of the docstrings of a file."""
    held = nodes(path, ast.Module, ast.ClassDef, ast.FunctionDef)
    first = [node.body[0] for node in held if node.body and isinstance(node.body[0], ast.Expr)]
    return {id_of(row.value) for row in first}


def id_of(node):
    return node.lineno, node.col_offset


class Language(unittest.TestCase):
    def test_only_plain_files(self):
        for path in PACKAGE.rglob("*"):
            if "__pycache__" not in path.parts and path.is_file():
                self.assertRegex(path.name, r"^[a-z_][a-z0-9_]*\.py$")

    def test_sizes_and_characters(self):
        for path in FILES:
            text = path.read_text(encoding="utf-8")
            self.assertRegex(text, r"\A[ -~\n]*\Z", path.name)
            lines = text.split("\n")
            self.assertLessEqual(len(lines), 399, path.name)
            self.assertLessEqual(max(map(len, lines)), 120, path.name)
            for node in nodes(path, ast.FunctionDef):
                self.assertLessEqual(node.end_lineno - node.lineno + 1, 40, node.name)

    def test_imports(self):
        for path in FILES:
            self.assertEqual(nodes(path, ast.Import), [], path.name)
            for node in nodes(path, ast.ImportFrom):
                self.assertEqual(node.level, 0)
                self.assertTrue(node.module.startswith("overtaken.") or node.module in LIBRARY, node.module)
                self.assertNotIn("*", [name.name for name in node.names])

    def test_statements(self):
        for path in FILES:
            self.assertEqual([ast.dump(node) for node in nodes(path, *STATEMENTS)], [], path.name)

    def test_names(self):
        for path in FILES:
            tree = ast.parse(path.read_text())
            for node in ast.walk(tree):
                for name in (getattr(node, field, None) for field in ("id", "name", "attr", "arg")):
                    if isinstance(name, str):
                        self.assertNotRegex(name, BANNED, path.name)
                        if name.startswith("__"):
                            self.assertIn(name.strip("_"), DOUBLE, path.name)

    def test_builtins(self):
        told = __builtins__ if isinstance(__builtins__, dict) else vars(__builtins__)
        for path in FILES:
            for node in nodes(path, ast.Name):
                if node.id in told:
                    self.assertIn(node.id, BUILTINS, path.name)
                    self.assertIsInstance(node.ctx, ast.Load, path.name)

    def test_strings(self):
        for path in FILES:
            skipped = docstrings(path)
            for node in nodes(path, ast.Constant):
                self.assertNotIsInstance(node.value, (float, complex))
                if isinstance(node.value, str):
                    self.assertNotIn("%", node.value, path.name)
                    if id_of(node) not in skipped:
                        self.assertNotRegex(node.value, BANNED, path.name)


if __name__ == "__main__":
    unittest.main()
