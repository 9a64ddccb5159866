"""What the rules of the language say of each file of the package: L1, L2, L10 and L14."""

import ast
import pathlib
import unittest

PACKAGE = pathlib.Path(__file__).resolve().parent.parent / "swiftkin"


class Files(unittest.TestCase):
    def setUp(self):
        self.files = sorted(PACKAGE.glob("*.py"))
        self.assertTrue(self.files)

    def test_the_folder_has_nothing_else(self):
        others = [path.name for path in PACKAGE.iterdir() if path not in self.files]
        self.assertEqual([name for name in others if name != "__pycache__"], [])

    def test_signs_and_sizes(self):
        for path in self.files:
            text = path.read_bytes().decode("utf-8")
            self.assertTrue(all(" " <= sign <= "~" or sign == "\n" for sign in text), path.name)
            self.assertLessEqual(len(text.splitlines()), 399, path.name)
            self.assertLessEqual(max(len(line) for line in text.splitlines()), 120, path.name)

    def test_lengths_of_functions(self):
        for path in self.files:
            for node in ast.walk(ast.parse(path.read_text())):
                if isinstance(node, ast.FunctionDef):
                    self.assertLessEqual(node.end_lineno - node.lineno + 1, 40, (path.name, node.name))

    def test_imports_are_those_that_are_let(self):
        let = ("swiftkin", "heapq", "math", "itertools", "collections", "__future__")
        for path in self.files:
            for node in ast.walk(ast.parse(path.read_text())):
                self.assertNotIsInstance(node, ast.Import, path.name)
                if isinstance(node, ast.ImportFrom):
                    self.assertIn(node.module.split(".")[0], let, path.name)


if __name__ == "__main__":
    unittest.main()
