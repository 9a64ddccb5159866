"""The interface: each name stands in its file, with its arguments, and each method in its class itself."""

import importlib
import inspect
import unittest

FUNCTIONS = {
    "worths": {"is_worth": "(thing)", "is_plain": "(thing)"},
    "lines": {"merge": "(rows)", "is_ring": "(rows, demands)"},
    "world": {"world_of": "(changes)"},
    "code": {"looked": "(code)", "is_heights": "(code, heights)", "is_wrong": "(code, ways)"},
    "source": {"read": "(text)", "show": "(tree)"},
    "walk": {"walk": "(world, tree, arguments=(), *, most=400)"},
    "compiled": {"compiled": "(tree)"},
    # The paper of is_special is handed in by its place; its own name there is the one of a function of the file.
    "papers": {"paper": "(world, worth, word)", "is_paper": "(world, worth, word, told)",
               "is_special": "(world, special)",
               "ended": "(world, version)"},
}
METHODS = {
    ("world", "World"): {
        "__init__": "(self)", "kind": "(self, name, *, elders=())", "turn": "(self, name, *, elders)",
        "put": "(self, kind, word, worth)", "out": "(self, kind, word)", "lay": "(self, n, word, worth)",
        "lift": "(self, n, word)", "deed": "(self, name, code, *, takes=(), worths=())", "thing": "(self, kind)",
        "kinds": "(self)", "line": "(self, name)", "below": "(self, name)", "version": "(self, name)",
        "picture": "(self, version)", "words": "(self, kind)", "own": "(self, n)", "found": "(self, kind, word)",
        "kind_of": "(self, n)", "shape": "(self, n)", "log": "(self)", "__len__": "(self)", "__eq__": "(self, other)",
    },
    ("plain", "Plain"): {"__init__": "(self, world)", "run": "(self, deed, arguments=(), *, most=400)",
                         "looks": "(self)"},
    ("quick", "Quick"): {
        "__init__": "(self, world, *, answers=8)", "run": "(self, deed, arguments=(), *, most=400)", "looks": "(self)",
        "hits": "(self)", "misses": "(self)", "state": "(self, deed, row, number)", "answers": "(self)",
        "visits": "(self)",
        "papers": "(self)", "take": "(self, paper)",
    },
    ("errors", "NoLine"): {"__init__": "(self, name, rows, ring)"},
    ("errors", "NoCode"): {"__init__": "(self, told)"},
    ("errors", "NoSource"): {"__init__": "(self, place)"},
    ("errors", "NoChange"): {"__init__": "(self, number)"},
}

class Interface(unittest.TestCase):
    def test_functions(self):
        for name, functions in FUNCTIONS.items():
            module = importlib.import_module("swiftkin." + name)
            for function, text in functions.items():
                told = getattr(module, function)
                self.assertTrue(inspect.isfunction(told))
                self.assertEqual(told.__module__, module.__name__)
                self.assertEqual(str(inspect.signature(told)), text, function)

    def test_methods(self):
        for (name, class_name), methods in METHODS.items():
            module = importlib.import_module("swiftkin." + name)
            told = getattr(module, class_name)
            self.assertTrue(inspect.isclass(told))
            self.assertEqual(told.__module__, module.__name__)
            for method, text in methods.items():
                self.assertIn(method, vars(told), class_name)
                self.assertEqual(str(inspect.signature(vars(told)[method])), text, (class_name, method))


if __name__ == "__main__":
    unittest.main()
