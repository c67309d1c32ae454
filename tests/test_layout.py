"""The files of the package: what stands in its folder, what it imports, and how large it is."""

import ast
import unittest
from pathlib import Path

import latehouse

FOLDER = Path(latehouse.__file__).parent
FILES = sorted(FOLDER.glob("*.py"))
LIBRARY = {"__future__", "heapq", "math", "itertools", "collections"}


class LayoutTest(unittest.TestCase):
    def test_the_folder_holds_nothing_else(self):
        others = [path.name for path in FOLDER.iterdir() if path not in FILES]
        self.assertIn(others, ([], ["__pycache__"]))

    def test_sizes_and_signs(self):
        for path in FILES:
            with self.subTest(file=path.name):
                text = path.read_text(encoding="utf-8")
                lines = text.split("\n")
                self.assertLessEqual(len(lines), 400)
                self.assertLessEqual(max(len(line) for line in lines), 120)
                self.assertEqual([sign for sign in text if sign != "\n" and not " " <= sign <= "~"], [])

    def test_functions_are_small(self):
        for path in FILES:
            for node in ast.walk(ast.parse(path.read_text(encoding="utf-8"))):
                if isinstance(node, ast.FunctionDef):
                    with self.subTest(file=path.name, function=node.name):
                        self.assertLessEqual(node.end_lineno - node.lineno + 1, 40)

    def test_imports_are_of_the_package(self):
        for path in FILES:
            for node in ast.walk(ast.parse(path.read_text(encoding="utf-8"))):
                with self.subTest(file=path.name):
                    self.assertNotIsInstance(node, ast.Import)
                    if isinstance(node, ast.ImportFrom):
                        self.assertEqual(node.level, 0)
                        self.assertTrue(node.module in LIBRARY or node.module.startswith("latehouse."))


if __name__ == "__main__":
    unittest.main()
