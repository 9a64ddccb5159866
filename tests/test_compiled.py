"""Promise [25]: what a tree is compiled to: its rows, their places, and its guards."""

import random
import unittest

from second_source import Draw, Rows, Write
from swiftkin import compiled as module
from swiftkin.code import is_heights, looked
from swiftkin.compiled import compiled
from swiftkin.errors import TooBig
from swiftkin.source import read

ONE, NONE = ("number", 1), ("none",)


class Case(unittest.TestCase):
    def compiled(self, text, *rows, guards=(), takes="x"):
        """The steps of this text are compiled to these rows: (place, row ..), places counted from the steps on."""
        head = "deed f(" + takes + "){"
        first = 5 + len(takes.replace(",", " , ").split())
        tree = read(head + text + "}")
        last = tree[4]
        code, places = compiled(tree)
        self.assertEqual(code, (tuple(row[1:] for row in rows) + (("push", NONE), ("give",)), guards), text)
        self.assertEqual(places, [first + row[0] for row in rows] + [last, last], text)
        self.judge(code, places)

    def judge(self, code, places):
        """Such a code is right, and all is of the sort that it must be."""
        told, heights = looked(code)
        self.assertEqual(told, "right")
        self.assertIs(is_heights(code, heights), True)
        self.assertEqual((type(code), type(code[0]), type(code[1]), type(places)), (tuple, tuple, tuple, list))
        self.assertEqual({type(row) for row in code[0]} | {type(guard) for guard in code[1]}, {tuple})
        self.assertEqual(len(places), len(code[0]))


class Nodes(Case):
    def test_where_it_is_defined(self):
        self.assertEqual(compiled.__module__, module.__name__)

    def test_no_steps(self):
        self.compiled("")
        self.assertEqual(compiled(read("deed f(){}")), (((("push", NONE), ("give",)), ()), [5, 5]))

    def test_sums(self):
        x = (0, "get", "x")
        for text, rows in (
            ("1", [(0, "push", ONE)]), ('"a"', [(0, "push", ("text", "a"))]), ("yes", [(0, "push", ("truth", True))]),
            ("no", [(0, "push", ("truth", False))]), ("none", [(0, "push", NONE)]), ("x", [x]),
            ("zz", [(0, "get", "zz")]),
            ("above.w", [x, (0, "above", "w")]), ("x.w", [x, (1, "read", "w")]),
            ("x.w.v", [x, (1, "read", "w"), (3, "read", "v")]),
            ("x()", [x, (1, "call", 0)]), ("x(y)", [x, (2, "get", "y"), (1, "call", 1)]),
            ("x(y,1,z,none)", [x, (2, "get", "y"), (4, "push", ONE), (6, "get", "z"), (8, "push", NONE),
                               (1, "call", 4)]),
            ("x+1", [x, (2, "push", ONE), (1, "add")]), ("x<1", [x, (2, "push", ONE), (1, "less")]),
            ("x==1", [x, (2, "push", ONE), (1, "same")]),
            ("x+y+1", [x, (2, "get", "y"), (1, "add"), (4, "push", ONE), (3, "add")]),
            ("x+(y+1)", [x, (3, "get", "y"), (5, "push", ONE), (4, "add"), (1, "add")]),
            ("x.w(y.v)", [x, (1, "read", "w"), (4, "get", "y"), (5, "read", "v"), (3, "call", 1)]),
        ):
            # A sum alone is let be none, at the place of its ;.
            self.compiled(text + ";", *rows, (self.many(text), "let", "none"))
            self.compiled("y=" + text + ";", *self.moved(rows, 2), (1, "let", "y"))
            self.compiled("give " + text + ";", *self.moved(rows, 1), (0, "give"))

    def many(self, text):
        """Tell how many tokens a sum has."""
        return read("deed f(x){" + text + ";}")[4] - 7

    def moved(self, rows, many):
        return [(row[0] + many,) + row[1:] for row in rows]

    def test_above_gets_the_first_take(self):
        self.compiled("above.w;", (0, "get", "b"), (0, "above", "w"), (3, "let", "none"), takes="b,a")
        # Also where a local of the name is set.
        self.compiled("x=1;above.w;", (2, "push", ONE), (1, "let", "x"), (4, "get", "x"), (4, "above", "w"),
                      (7, "let", "none"))

    def test_steps(self):
        self.compiled("x.w=1;", (0, "get", "x"), (4, "push", ONE), (3, "write", "w"))
        self.compiled("x.w.v=x.u;", (0, "get", "x"), (1, "read", "w"), (6, "get", "x"), (7, "read", "u"),
                      (5, "write", "v"))
        self.compiled("drop x.w;", (1, "get", "x"), (0, "drop", "w"))
        self.compiled("drop x.w.v;", (1, "get", "x"), (2, "read", "w"), (0, "drop", "v"))
        self.compiled("calm;calm;", (0, "calm"), (2, "calm"))
        self.compiled("give 1;give x;", (1, "push", ONE), (0, "give"), (4, "get", "x"), (3, "give"))

    def test_ifs(self):
        self.compiled("if x{}", (1, "get", "x"), (0, "unless", 2))
        self.compiled("if x{calm;}", (1, "get", "x"), (0, "unless", 3), (3, "calm"))
        self.compiled("if x{calm;}else{}", (1, "get", "x"), (0, "unless", 3), (3, "calm"))
        self.compiled("if x{}else{calm;}", (1, "get", "x"), (0, "unless", 3), (0, "jump", 4), (6, "calm"))
        self.compiled("if x{calm;}else{calm;calm;}", (1, "get", "x"), (0, "unless", 4), (3, "calm"), (0, "jump", 6),
                      (8, "calm"),
                      (10, "calm"))
        self.compiled("calm;if x<1{x;}", (0, "calm"), (3, "get", "x"), (5, "push", ONE), (4, "less"), (2, "unless", 7),
                      (7, "get", "x"), (8, "let", "none"))

    def test_whiles(self):
        self.compiled("while x{}", (1, "get", "x"), (0, "unless", 3), (0, "jump", 0))
        self.compiled("calm;while x<1{calm;}calm;", (0, "calm"), (3, "get", "x"), (5, "push", ONE), (4, "less"),
                      (2, "unless", 7),
                      (7, "calm"), (2, "jump", 1), (10, "calm"))

    def test_guards(self):
        self.compiled("guard{calm;}else e{}", (2, "calm"), (0, "jump", 3), (0, "let", "e"), guards=((0, 1, 2, 0),))
        self.compiled("guard{}else e{}", (0, "jump", 2), (0, "let", "e"))
        self.compiled("guard{}else e{calm;}", (0, "jump", 3), (0, "let", "e"), (6, "calm"))
        self.compiled("calm;guard{x;calm;}else e{e;}calm;", (0, "calm"), (4, "get", "x"), (5, "let", "none"),
                      (6, "calm"),
                      (2, "jump", 8), (2, "let", "e"), (12, "get", "e"), (13, "let", "none"), (15, "calm"),
                      guards=((1, 4, 5, 0),))

    def test_guards_in_the_order_in_which_their_steps_end(self):
        self.compiled("guard{guard{calm;}else a{calm;}calm;}else b{guard{calm;}else c{}}",
                      (4, "calm"), (2, "jump", 4), (2, "let", "a"), (10, "calm"), (13, "calm"), (0, "jump", 10),
                      (0, "let", "b"),
                      (21, "calm"), (19, "jump", 10), (19, "let", "c"),
                      guards=((0, 1, 2, 0), (0, 5, 6, 0), (7, 8, 9, 0)))
        self.compiled("guard{guard{calm;}else a{}}else b{}guard{calm;}else c{}",
                      (4, "calm"), (2, "jump", 3), (2, "let", "a"), (0, "jump", 5), (0, "let", "b"), (18, "calm"),
                      (16, "jump", 8),
                      (16, "let", "c"), guards=((0, 1, 2, 0), (0, 3, 4, 0), (5, 6, 7, 0)))
        # The steps of a guard without rows have none, those about it have.
        self.compiled("guard{guard{}else a{}}else b{}", (2, "jump", 2), (2, "let", "a"), (0, "jump", 4),
                      (0, "let", "b"),
                      guards=((0, 2, 3, 0),))

    def test_a_loop_in_a_guard_in_an_if(self):
        self.compiled("if x{guard{while y{calm;}}else e{give e;}}else{give 1;}",
                      (1, "get", "x"), (0, "unless", 11), (6, "get", "y"), (5, "unless", 6), (8, "calm"),
                      (5, "jump", 2),
                      (3, "jump", 10), (3, "let", "e"), (16, "get", "e"), (15, "give"), (0, "jump", 13),
                      (23, "push", ONE),
                      (22, "give"), guards=((2, 6, 7, 0),))

    def test_rows_to_which_no_way_leads(self):
        code, _ = compiled(read("deed f(){give 1;x;guard{}else e{calm;}}"))
        self.assertEqual(looked(code), ("right", [0, 1] + [None] * 7))


class Told(Case):
    def test_a_new_list_each_time(self):
        tree = read("deed f(x){x;}")
        one, other = compiled(tree), compiled(tree)
        self.assertEqual(one, other)
        self.assertIsNot(one[1], other[1])
        one[1].clear()
        self.assertEqual(compiled(tree), other)

    def test_what_is_handed_in_stays(self):
        tree = read('deed f(x,y="a"){if x{x.w=1;}else{guard{drop x.w;}else e{}}while x{}}')
        before = repr(tree)
        compiled(tree)
        self.assertEqual(repr(tree), before)

    def test_drawn_trees(self):
        rows = 0
        for seed in range(1500):
            source = random.Random(seed)
            writer = Write(source, 0.1)
            tree = writer.deed(Draw(source).deed(source.choice([1, 2, 2, 3])))
            told = compiled(tree)
            self.assertEqual(told, Rows(tree).told())
            try:
                read(" ".join(writer.tokens))
            except TooBig:
                continue
            self.judge(*told)
            rows += len(told[1])
        self.assertGreater(rows, 10000)


if __name__ == "__main__":
    unittest.main()
