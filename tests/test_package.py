"""What the rules of the language say of each file of the package: L1, L2, L7, L10, L14, L15 and L16, in part."""

import ast
import builtins
import pathlib
import unittest

PACKAGE = pathlib.Path(__file__).resolve().parent.parent / "swiftkin"


class Files(unittest.TestCase):
    def setUp(self):
        self.files = sorted(PACKAGE.glob("*.py"))
        self.assertTrue(self.files)

    def test_the_folder_has_nothing_else(self):
        others = [path.name for path in PACKAGE.iterdir() if path not in self.files]
        self.assertEqual([name for name in others if name != "__pycache__"], [])

    def test_signs_and_sizes(self):
        for path in self.files:
            text = path.read_bytes().decode("utf-8")
            self.assertTrue(all(" " <= sign <= "~" or sign == "\n" for sign in text), path.name)
            self.assertLessEqual(len(text.splitlines()), 399, path.name)
            self.assertLessEqual(max(len(line) for line in text.splitlines()), 120, path.name)

    def test_lengths_of_functions(self):
        for path in self.files:
            for node in ast.walk(ast.parse(path.read_text())):
                if isinstance(node, ast.FunctionDef):
                    self.assertLessEqual(node.end_lineno - node.lineno + 1, 40, (path.name, node.name))

    def test_imports_are_those_that_are_let(self):
        let = ("swiftkin", "heapq", "math", "itertools", "collections", "__future__")
        for path in self.files:
            for node in ast.walk(ast.parse(path.read_text())):
                self.assertNotIsInstance(node, ast.Import, path.name)
                if isinstance(node, ast.ImportFrom):
                    self.assertIn(node.module.split(".")[0], let, path.name)

    def test_no_generator_expressions(self):
        # World has its own ==, so L7 lets any, all and the like take lists alone.
        for path in self.files:
            for node in ast.walk(ast.parse(path.read_text())):
                self.assertNotIsInstance(node, ast.GeneratorExp, path.name)

    def test_no_name_means_two_things(self):
        for path in self.files:
            tree = ast.parse(path.read_text())
            taken = set(dir(builtins)) | {node.name for node in tree.body if isinstance(node, ast.ClassDef)}
            for node in tree.body:
                if isinstance(node, ast.ImportFrom):
                    taken |= {name.name for name in node.names}
                if isinstance(node, ast.FunctionDef):
                    self.assertNotIn(node.name, taken, path.name)
            for node in ast.walk(tree):
                if isinstance(node, ast.arg):
                    self.assertNotIn(node.arg, taken, path.name)
                if isinstance(node, ast.Name) and isinstance(node.ctx, ast.Store):
                    self.assertNotIn(node.id, taken, path.name)

    def test_no_two_files_import_from_each_other(self):
        imports = {path.stem: self.imported(path) for path in self.files}
        while imports:
            free = [name for name in imports if not any(other in imports for other in imports[name])]
            self.assertTrue(free, imports)
            for name in free:
                del imports[name]

    def imported(self, path):
        nodes = [node for node in ast.walk(ast.parse(path.read_text())) if isinstance(node, ast.ImportFrom)]
        return [node.module.split(".")[1] for node in nodes if node.module.startswith("swiftkin.")]


if __name__ == "__main__":
    unittest.main()
