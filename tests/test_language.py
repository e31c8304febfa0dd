"""The form of the files of the package, as far as a short test can see it."""

import ast
import pathlib
import re
import unittest

FOLDER = pathlib.Path(__file__).resolve().parent.parent / "scatterbooks"
FILES = sorted(FOLDER.glob("*.py"))
LIBRARY = {"heapq", "math", "itertools", "collections"}


def nodes(path, kinds):
    return [node for node in ast.walk(ast.parse(path.read_text())) if isinstance(node, kinds)]


class Form(unittest.TestCase):

    def test_folder_holds_only_plain_files(self):
        names = [path.name for path in FOLDER.iterdir() if path.name != "__pycache__"]
        self.assertIn("__init__.py", names)
        for name in names:
            self.assertRegex(name, r"^(__init__|__main__|[a-z][a-z0-9_]*)\.py$")

    def test_sizes(self):
        for path in FILES:
            lines = path.read_text().splitlines()
            self.assertLess(len(lines), 400, path)
            self.assertLessEqual(max(map(len, lines), default=0), 120, path)
            for node in nodes(path, ast.FunctionDef):
                self.assertLessEqual(node.end_lineno - node.lineno, 39, (path, node.name))

    def test_characters(self):
        for path in FILES:
            self.assertIsNone(re.search(rb"[^\n -~]", path.read_bytes()), path)

    def test_imports(self):
        for path in FILES:
            self.assertEqual(nodes(path, ast.Import), [], path)
            for node in nodes(path, ast.ImportFrom):
                first = node.module.split(".")[0]
                self.assertTrue(node.level == 0 and (first == "scatterbooks" or first in LIBRARY), (path, node.lineno))

    def test_no_floats_and_no_division(self):
        for path in FILES:
            self.assertEqual(nodes(path, ast.Div), [], path)
            for node in nodes(path, ast.Constant):
                self.assertNotIsInstance(node.value, (float, complex), (path, node.lineno))
                self.assertFalse(isinstance(node.value, str) and "\x25" in node.value, (path, node.lineno))

    def test_every_function_and_class_is_told(self):
        for path in FILES:
            self.assertTrue(ast.get_docstring(ast.parse(path.read_text())), path)
            for node in nodes(path, (ast.FunctionDef, ast.ClassDef)):
                told = ast.get_docstring(node) or node.name == "__init__"
                self.assertTrue(told, (path, node.name))
