"""Rules of the Python subset that can be counted: L1, L2, L10, L14 and L16."""

import ast
import unittest
from pathlib import Path

PACKAGE = Path(__file__).resolve().parent.parent / "revokelog"
FILES = sorted(PACKAGE.glob("*.py"))
LIBRARY = ("__future__", "collections", "heapq", "itertools", "math")


def trees():
    return [(path, ast.parse(path.read_text("ascii"))) for path in FILES]


def defined_names(tree):
    names = [node.name for node in tree.body if isinstance(node, (ast.FunctionDef, ast.ClassDef))]
    assigned = [node.targets[0].id for node in tree.body if isinstance(node, ast.Assign)]
    return names + assigned


class LanguageTest(unittest.TestCase):
    def test_the_folder_holds_python_files_only(self):
        others = [path.name for path in PACKAGE.iterdir() if path not in FILES and path.name != "__pycache__"]
        self.assertEqual(others, [])
        self.assertIn(PACKAGE / "__init__.py", FILES)

    def test_files_and_lines_are_short_and_plain(self):
        for path in FILES:
            text = path.read_text("ascii")
            self.assertTrue(all(" " <= sign <= "~" or sign == "\n" for sign in text), path.name)
            lines = text.splitlines()
            self.assertLessEqual(len(lines), 399, path.name)
            self.assertLessEqual(max(map(len, lines)), 120, path.name)

    def test_functions_are_short(self):
        for _, tree in trees():
            for node in ast.walk(tree):
                if isinstance(node, ast.FunctionDef):
                    self.assertLessEqual(node.end_lineno - node.lineno + 1, 40, node.name)

    def test_imports_name_the_file_that_defines(self):
        names = {"revokelog." + path.stem: defined_names(tree) for path, tree in trees()}
        for path, tree in trees():
            for node in ast.walk(tree):
                self.assertNotIsInstance(node, (ast.AsyncFunctionDef, ast.Await, ast.Import), path.name)
                if isinstance(node, ast.ImportFrom) and node.module not in LIBRARY:
                    self.assertIn(node, tree.body)
                    self.assertIn(node.module, names)
                    for alias in node.names:
                        self.assertIn(alias.name, names[node.module])


if __name__ == "__main__":
    unittest.main()
