"""The form of the code: what of ../shared/LANGUAGE.md is easily looked up."""

import ast
import builtins
import pathlib
import unittest

PACKAGE = pathlib.Path(__file__).resolve().parent.parent / "wordways"
LIBRARY = ("heapq", "math", "itertools", "collections", "__future__")
BUILTINS = (
    "len range enumerate zip min max sum abs sorted reversed int str bool bytes list tuple dict set"
    " frozenset isinstance ord repr any all divmod pow getattr hasattr setattr iter next map type super"
    " property staticmethod classmethod object NotImplemented True False None"
    " Exception ValueError TypeError KeyError IndexError LookupError ZeroDivisionError ArithmeticError"
    " OverflowError RuntimeError NotImplementedError AttributeError StopIteration"
).split()


def files():
    return sorted(PACKAGE.rglob("*.py"))


def trees():
    return [(file.name, ast.parse(file.read_text())) for file in files()]


class FormTest(unittest.TestCase):
    def test_only_python_files(self):
        for file in PACKAGE.rglob("*"):
            if "__pycache__" not in file.parts:
                self.assertTrue(file.is_dir() or file.suffix == ".py", file)

    def test_characters_and_sizes(self):
        for file in files():
            text = file.read_text()
            self.assertTrue(all(sign == "\n" or " " <= sign <= "~" for sign in text), file)
            lines = text.split("\n")
            self.assertLessEqual(len(lines), 400, file)
            self.assertLessEqual(max(map(len, lines)), 120, file)

    def test_functions_are_small(self):
        for name, tree in trees():
            for node in ast.walk(tree):
                if isinstance(node, ast.FunctionDef):
                    self.assertLessEqual(node.end_lineno - node.lineno + 1, 40, (name, node.name))

    def test_imports(self):
        for name, tree in trees():
            for node in ast.walk(tree):
                self.assertNotIsInstance(node, ast.Import, name)
                if isinstance(node, ast.ImportFrom):
                    self.assertEqual(node.level, 0, name)
                    known = node.module.startswith("wordways.") or node.module in LIBRARY
                    self.assertTrue(known, (name, node.module))

    def test_builtins(self):
        for name, tree in trees():
            for node in ast.walk(tree):
                if isinstance(node, ast.Name) and hasattr(builtins, node.id):
                    self.assertIn(node.id, BUILTINS, name)
                    self.assertIsInstance(node.ctx, ast.Load, (name, node.id))

    def test_no_floats_and_no_percent_signs_in_texts(self):
        for name, tree in trees():
            for node in ast.walk(tree):
                self.assertNotIsInstance(node, ast.Div, name)
                if isinstance(node, ast.Constant):
                    self.assertNotIsInstance(node.value, float, name)
                    self.assertNotIn("%", str(node.value), name)


if __name__ == "__main__":
    unittest.main()
