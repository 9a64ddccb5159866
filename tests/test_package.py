"""What the rules of the language say of each file of the package: L1, L2, L7, L10, L12, L14 to L18 and L27, in part."""

import ast
import builtins
import pathlib
import unittest

PACKAGE = pathlib.Path(__file__).resolve().parent.parent / "swiftkin"

# L17 and L12: names that stand nowhere, and those that only attributes may have.
BARRED = """register mro elements open input law version_info with_traceback add_note _cold _tuplegetter _outside
_record _written_out _member_names""".split()
BARRED_BUT_FOR_ATTRIBUTES = """attrgetter breakpoint builtins compile copyright credits delattr dir eval exec exit gc
globals help id importlib license locals methodcaller os quit setattr vars sys""".split()
BARRED_BEGINNINGS = ("__", "_wall", "_pe_", "_dcw_", "_enum_", "_cm_", "_twin_re_", "_lay_", "_law_", "_stub_", "_sre",
                     "_WallAttr")
METHODS_THAT_MAY_STAND = ("__init__", "__eq__", "__len__")
# L26: what values of Python's own have no class may have as a method, and no object as an attribute.
BUILTIN = {name for one in ("", 0, [], {}, set(), b"") for name in dir(one)}


def names_in(tree):
    """Tell the names of a file, each with whether it is an attribute."""
    for node in ast.walk(tree):
        if isinstance(node, ast.Name):
            yield node.id, False
        if isinstance(node, ast.arg) or isinstance(node, ast.keyword) and node.arg:
            yield node.arg, False
        if isinstance(node, (ast.FunctionDef, ast.ClassDef)):
            yield node.name, False
        if isinstance(node, ast.Attribute):
            yield node.attr, True


class Files(unittest.TestCase):
    def setUp(self):
        self.files = sorted(PACKAGE.glob("*.py"))
        self.assertTrue(self.files)

    def test_the_folder_has_nothing_else(self):
        others = [path.name for path in PACKAGE.iterdir() if path not in self.files]
        self.assertEqual([name for name in others if name != "__pycache__"], [])

    def test_signs_and_sizes(self):
        for path in self.files:
            text = path.read_bytes().decode("utf-8")
            self.assertTrue(all(" " <= sign <= "~" or sign == "\n" for sign in text), path.name)
            self.assertLessEqual(len(text.splitlines()), 399, path.name)
            self.assertLessEqual(max(len(line) for line in text.splitlines()), 120, path.name)

    def test_lengths_of_functions(self):
        for path in self.files:
            for node in ast.walk(ast.parse(path.read_text())):
                if isinstance(node, ast.FunctionDef):
                    self.assertLessEqual(node.end_lineno - node.lineno + 1, 40, (path.name, node.name))

    def test_imports_are_those_that_are_let(self):
        let = ("swiftkin", "heapq", "math", "itertools", "collections", "__future__")
        for path in self.files:
            for node in ast.walk(ast.parse(path.read_text())):
                self.assertNotIsInstance(node, ast.Import, path.name)
                if isinstance(node, ast.ImportFrom):
                    self.assertIn(node.module.split(".")[0], let, path.name)

    def test_no_generator_expressions(self):
        # World has its own ==, so L7 lets any, all and the like take lists alone.
        for path in self.files:
            for node in ast.walk(ast.parse(path.read_text())):
                self.assertNotIsInstance(node, ast.GeneratorExp, path.name)

    def test_no_name_means_two_things(self):
        for path in self.files:
            tree = ast.parse(path.read_text())
            taken = set(dir(builtins)) | {node.name for node in tree.body if isinstance(node, ast.ClassDef)}
            for node in tree.body:
                if isinstance(node, ast.ImportFrom):
                    taken |= {name.name for name in node.names}
                if isinstance(node, ast.FunctionDef):
                    self.assertNotIn(node.name, taken, path.name)
            for node in ast.walk(tree):
                if isinstance(node, ast.arg):
                    self.assertNotIn(node.arg, taken, path.name)
                if isinstance(node, ast.Name) and isinstance(node.ctx, ast.Store):
                    self.assertNotIn(node.id, taken, path.name)

    def test_barred_names(self):
        for path in self.files:
            for name, is_attribute in names_in(ast.parse(path.read_text())):
                self.assertNotIn(name, BARRED, path.name)
                if not is_attribute:
                    self.assertNotIn(name, BARRED_BUT_FOR_ATTRIBUTES, path.name)
                if name not in METHODS_THAT_MAY_STAND:
                    self.assertFalse(name.startswith(BARRED_BEGINNINGS), (path.name, name))

    def test_methods_and_attributes(self):
        methods, attributes = {}, {}
        for path in self.files:
            for node in ast.walk(ast.parse(path.read_text())):
                if isinstance(node, ast.ClassDef):
                    for one in [one for one in node.body if isinstance(one, ast.FunctionDef)]:
                        self.assertEqual(one.decorator_list, [], path.name)
                        methods[one.name] = path.name
                if isinstance(node, ast.Attribute) and isinstance(node.ctx, ast.Store):
                    attributes[node.attr] = path.name
        for name in (set(methods) | set(attributes)) - set(METHODS_THAT_MAY_STAND):
            self.assertNotIn(name, BUILTIN)
        # Stricter than L18: a name is a method or an attribute, in all classes.
        self.assertEqual(set(methods) & set(attributes), set())

    def test_strings(self):
        for path in self.files:
            tree = ast.parse(path.read_text())
            docs = [ast.get_docstring(node, False) for node in ast.walk(tree)
                    if isinstance(node, (ast.Module, ast.ClassDef, ast.FunctionDef))]
            for node in ast.walk(tree):
                if isinstance(node, ast.Constant) and isinstance(node.value, str) and node.value not in docs:
                    self.assertNotIn("%", node.value, path.name)
                    self.assertNotIn("type", node.value.split(), path.name)
                    self.assertFalse(node.value.endswith(("._", ".__")), path.name)

    def test_statements_and_values_that_are_not_used(self):
        for path in self.files:
            for node in ast.walk(ast.parse(path.read_text())):
                self.assertNotIsInstance(node, (ast.Global, ast.AsyncFunctionDef, ast.Lambda, ast.Yield, ast.YieldFrom,
                                                ast.Set,
                                                ast.SetComp, ast.Div, ast.NamedExpr), path.name)
                self.assertFalse(isinstance(node, ast.Constant) and isinstance(node.value, float), path.name)

    def test_module_level(self):
        for path in self.files:
            for node in ast.parse(path.read_text()).body:
                let = (ast.ImportFrom, ast.FunctionDef, ast.ClassDef, ast.Assign)
                doc = isinstance(node, ast.Expr) and isinstance(node.value,
                                                                ast.Constant) and isinstance(node.value.value, str)
                self.assertTrue(doc or isinstance(node, let), path.name)
                if isinstance(node, ast.Assign):
                    self.assertFalse([one for one in ast.walk(node) if isinstance(one, ast.Call)], path.name)

    def test_no_two_files_import_from_each_other(self):
        imports = {path.stem: self.imported(path) for path in self.files}
        while imports:
            free = [name for name in imports if not any(other in imports for other in imports[name])]
            self.assertTrue(free, imports)
            for name in free:
                del imports[name]

    def imported(self, path):
        nodes = [node for node in ast.walk(ast.parse(path.read_text())) if isinstance(node, ast.ImportFrom)]
        return [node.module.split(".")[1] for node in nodes if node.module.startswith("swiftkin.")]


if __name__ == "__main__":
    unittest.main()
