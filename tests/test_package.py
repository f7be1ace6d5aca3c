"""Tests of the package's files: what they hold, what they import, and their size."""

import ast
import pathlib
import unittest

PACKAGE = pathlib.Path(__file__).resolve().parent.parent / "returnrows"
LIBRARY = {"heapq", "math", "itertools", "collections", "__future__"}
BARRED = {"open", "print", "input", "eval", "exec", "compile", "globals", "locals", "vars", "hash", "id", "chr"}


def files():
    return sorted(path for path in PACKAGE.rglob("*") if path.is_file() and "__pycache__" not in path.parts)


def trees():
    return [(path, ast.parse(path.read_text(encoding="utf-8"))) for path in files()]


class PackageTest(unittest.TestCase):
    def test_there_are_python_files_only(self):
        self.assertIn(PACKAGE / "__init__.py", files())
        for path in files():
            self.assertRegex(path.name, r"\A[a-z0-9_]+\.py\Z")

    def test_imports_come_from_the_package(self):
        for path, tree in trees():
            for node in ast.walk(tree):
                self.assertNotIsInstance(node, ast.Import, path)
                if isinstance(node, ast.ImportFrom):
                    self.assertEqual(node.level, 0, path)
                    self.assertTrue(node.module.startswith("returnrows.") or node.module in LIBRARY, path)

    def test_nothing_is_read_printed_or_evaluated(self):
        for path, tree in trees():
            names = {node.id for node in ast.walk(tree) if isinstance(node, ast.Name)}
            self.assertEqual(names & BARRED, set(), path)

    def test_no_floats(self):
        for path, tree in trees():
            for node in ast.walk(tree):
                self.assertNotIsInstance(node, ast.Div, path)
                if isinstance(node, ast.Constant):
                    self.assertNotIsInstance(node.value, (float, complex), path)

    def test_size_and_characters(self):
        for path in files():
            text = path.read_text(encoding="utf-8")
            self.assertTrue(all(sign == "\n" or " " <= sign <= "~" for sign in text), path)
            lines = text.split("\n")
            self.assertLess(len(lines), 400, path)
            self.assertLessEqual(max(len(line) for line in lines), 120, path)

    def test_functions_are_small(self):
        for path, tree in trees():
            for node in ast.walk(tree):
                if isinstance(node, ast.FunctionDef):
                    self.assertLessEqual(node.end_lineno - node.lineno + 1, 40, (path, node.name))

    def test_no_state_stands_at_module_level(self):
        for path, tree in trees():
            for node in tree.body:
                docstring = isinstance(node, ast.Expr) and isinstance(node.value, ast.Constant)
                self.assertTrue(docstring or isinstance(node, (ast.ImportFrom, ast.ClassDef, ast.FunctionDef,
                                                               ast.Assign)), path)


if __name__ == "__main__":
    unittest.main()
