"""The package as a whole: its modules, and the sizes of its files."""

import ast
import pathlib
import unittest

import samelists

FOLDER = pathlib.Path(samelists.__file__).parent
LIBRARY = ("heapq", "math", "itertools", "collections", "__future__")
FILES = sorted(FOLDER.glob("*.py"))


class PackageTest(unittest.TestCase):
    def test_init_is_empty_but_for_a_docstring(self):
        tree = ast.parse((FOLDER / "__init__.py").read_text())
        self.assertEqual(len(tree.body), 1)
        self.assertIsNotNone(ast.get_docstring(tree))

    def test_nothing_but_files_of_the_package(self):
        left = [path.name for path in FOLDER.iterdir() if path.suffix != ".py" and path.name != "__pycache__"]
        self.assertEqual(left, [])

    def test_modules(self):
        names = {path.stem for path in FILES}
        self.assertLessEqual({"__init__", "errors", "rows", "programs", "starts"}, names)
        self.assertLessEqual({"heaps", "runs", "alike", "papers"}, names)
        self.assertLessEqual({"choices", "questions", "houses", "desk"}, names)

    def test_imports(self):
        for path in FILES:
            for node in ast.walk(ast.parse(path.read_text())):
                self.assertNotIsInstance(node, ast.Import)
                if isinstance(node, ast.ImportFrom):
                    self.assertTrue(node.module.startswith("samelists.") or node.module in LIBRARY)

    def test_sizes_and_characters(self):
        for path in FILES:
            text = path.read_text()
            with self.subTest(path.name):
                self.assertLess(len(text.split("\n")), 400)
                self.assertLessEqual(max(len(line) for line in text.split("\n")), 120)
                self.assertTrue(all(letter == "\n" or " " <= letter <= "~" for letter in text))

    def test_functions_are_short(self):
        for path in FILES:
            for node in ast.walk(ast.parse(path.read_text())):
                if isinstance(node, ast.FunctionDef):
                    self.assertLessEqual(node.end_lineno - node.lineno + 1, 40)
