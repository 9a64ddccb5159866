"""Promises [22], [23]: sources that are read, their tokens, and the trees with the places of their tokens."""

import random
import unittest

from second_source import KEPT, Draw, Write, spaced, tokens_of
from swiftkin import source as module
from swiftkin.errors import NoSource, TooBig
from swiftkin.source import read, show

ONE, NONE, YES, NO = ("number", 1), ("none",), ("truth", True), ("truth", False)


def all_tuples(node):
    """Tell whether there are no lists in a tree."""
    return not isinstance(node, list) and (not isinstance(node, tuple) or all(all_tuples(part) for part in node))


class Case(unittest.TestCase):
    def steps(self, text, *steps, takes="x"):
        """A deed of this text as its steps has these, with places from the first token of the steps on."""
        ahead = "deed f ( " + takes + " ) { "
        many = len(tokens_of(ahead))
        for between in (" ", "\n", ""):
            tree = read(ahead + text + between + "}")
            self.assertTrue(all_tuples(tree))
            last = many + len(tokens_of(text))
            self.assertEqual(tree[3:], (tuple(self.moved(step, many) for step in steps), last))

    def moved(self, node, many):
        """Move the places of a node."""
        parts = []
        for at, part in enumerate(node):
            if at == 1:
                part += many
            elif isinstance(part, tuple) and part and isinstance(part[0], tuple):
                part = tuple(self.moved(one, many) for one in part)
            elif isinstance(part, tuple) and part and node[0] != "plain":
                part = self.moved(part, many)
            parts.append(part)
        return tuple(parts)

    def sum(self, text, node, takes="x"):
        """This is the text of this sum, where places are counted from its first token on."""
        many = len(tokens_of(text))
        self.steps(text + ";", ("do", many, node), takes=takes)
        self.steps("give " + text + ";", ("give", 0, self.moved(node, 1)), takes=takes)
        self.steps("y = " + text + ";", ("set", 1, "y", self.moved(node, 2)), takes=takes)
        self.steps("y . w = " + text + ";", ("write", 3, ("name", 0, "y"), "w", self.moved(node, 4)), takes=takes)
        self.steps("if " + text + "{}", ("if", 0, self.moved(node, 1), (), ()), takes=takes)
        self.steps("while " + text + "{}", ("while", 0, self.moved(node, 1), ()), takes=takes)
        self.steps("(" + text + ");", ("do", many + 2, self.moved(node, 1)), takes=takes)
        self.steps("y(" + text + ");", ("do", many + 3, ("call", 1, ("name", 0, "y"), (self.moved(node, 2),))),
                   takes=takes)


class Deeds(Case):
    def test_where_they_are_defined(self):
        self.assertEqual((read.__module__, show.__module__), (module.__name__,) * 2)

    def test_the_least(self):
        self.assertEqual(read("deed f(){}"), ("deed", "f", (), (), 5))

    def test_takes(self):
        for text, takes, many in (
            ("x", (("x",),), 1), ("x,y", (("x",), ("y",)), 3), ("a,b,c,d", (("a",), ("b",), ("c",), ("d",)), 7),
            ("x=1", (("x", ONE),), 3), ("x,y=1", (("x",), ("y", ONE)), 5), ("f", (("f",),), 1),
            ('a="",b=yes,c=no,d=none', (("a", ("text", "")), ("b", YES), ("c", NO), ("d", NONE)), 15),
            ("a,b,c,d=0", (("a",), ("b",), ("c",), ("d", ("number", 0))), 9),
        ):
            tree = read("deed f(" + text + "){}")
            self.assertEqual(tree, ("deed", "f", takes, (), 5 + many))
            self.assertTrue(all_tuples(tree))

    def test_names(self):
        for name in ("a", "z", "abcdefgh", "zzzzzzzz", "deeds", "dee", "iff", "i", "elses", "yess", "ye", "nones",
                     "non",
                     "abov", "aboves", "name", "number", "text"):
            self.assertEqual(read("deed " + name + "(" + name + "){" + name + ";}")[1:4], (
                name, ((name,),), (("do", 7, ("name", 6, name)),)))


class Sums(Case):
    def test_plain_ones(self):
        for text, worth in (("0", ("number", 0)), ("7", ("number", 7)), ("10", ("number", 10)),
                            ("999999999", ("number", 999999999)), ("1000000000", ("number", 10 ** 9)),
                            ('""', ("text", "")), ('"a"', ("text", "a")), ('"' + "x" * 20 + '"', ("text", "x" * 20)),
                            ('"  "', ("text", "  ")), ('"yes"', ("text", "yes")), ('"{"', ("text", "{")),
                            ("yes", YES), ("no", NO), ("none", NONE)):
            self.sum(text, ("plain", 0, worth))

    def test_texts_of_all_signs(self):
        signs = "".join(chr(n) for n in range(32, 127) if chr(n) != '"')
        for at in range(0, len(signs), 20):
            self.sum('"' + signs[at:at + 20] + '"', ("plain", 0, ("text", signs[at:at + 20])))
        for sign in signs:
            self.assertEqual(read('deed f(){"' + sign + '";}')[3][0][2][2], ("text", sign))

    def test_sorts_of_what_is_told(self):
        self.assertIs(type(read("deed f(){yes;}")[3][0][2][2][1]), bool)
        self.assertIs(type(read("deed f(){1;}")[3][0][2][2][1]), int)

    def test_names_and_above(self):
        self.sum("x", ("name", 0, "x"))
        self.sum("above.w", ("above", 0, "w"))
        self.sum("above . w . v", ("read", 3, ("above", 0, "w"), "v"))
        self.sum("above.w()", ("call", 3, ("above", 0, "w"), ()))
        self.sum("above.w", ("above", 0, "w"), takes="x=1")

    def test_reads_and_calls(self):
        x, y = ("name", 0, "x"), ("name", 2, "y")
        self.sum("x.w", ("read", 1, x, "w"))
        self.sum("x.w.v", ("read", 3, ("read", 1, x, "w"), "v"))
        self.sum("x()", ("call", 1, x, ()))
        self.sum("x(y)", ("call", 1, x, (y,)))
        self.sum("x()()", ("call", 3, ("call", 1, x, ()), ()))
        self.sum("x(y,1,y,none)", ("call", 1, x, (y, ("plain", 4, ONE), ("name", 6, "y"), ("plain", 8, NONE))))
        self.sum("x.w(y).v", ("read", 6, ("call", 3, ("read", 1, x, "w"), (("name", 4, "y"),)), "v"))
        self.sum("1 . w", ("read", 1, ("plain", 0, ONE), "w"))
        self.sum('"a"()', ("call", 1, ("plain", 0, ("text", "a")), ()))
        self.sum("x(x<y)", ("call", 1, x, (("less", 3, ("name", 2, "x"), ("name", 4, "y")),)))

    def test_adds_from_the_left(self):
        x, y, z = ("name", 0, "x"), ("name", 2, "y"), ("name", 4, "z")
        self.sum("x+y", ("add", 1, x, y))
        self.sum("x+y+z", ("add", 3, ("add", 1, x, y), z))
        self.sum("x+(y+z)", ("add", 1, x, ("add", 4, ("name", 3, "y"), ("name", 5, "z"))))
        self.sum("(x+y)+z", ("add", 5, ("add", 2, ("name", 1, "x"), ("name", 3, "y")), ("name", 6, "z")))
        self.sum("x.w+y()", ("add", 3, ("read", 1, x, "w"), ("call", 5, ("name", 4, "y"), ())))
        self.sum("x+y.w", ("add", 1, x, ("read", 3, y, "w")))

    def test_compared(self):
        x, y = ("name", 0, "x"), ("name", 2, "y")
        self.sum("x<y", ("less", 1, x, y))
        self.sum("x==y", ("same", 1, x, y))
        self.sum("x+y<x+y", ("less", 3, ("add", 1, x, y), ("add", 5, ("name", 4, "x"), ("name", 6, "y"))))
        self.sum("x==(x==y)", ("same", 1, x, ("same", 4, ("name", 3, "x"), ("name", 5, "y"))))
        self.sum("(x<y)<x", ("less", 5, ("less", 2, ("name", 1, "x"), ("name", 3, "y")), ("name", 6, "x")))
        self.sum("(x<y)+x", ("add", 5, ("less", 2, ("name", 1, "x"), ("name", 3, "y")), ("name", 6, "x")))

    def test_brackets_make_no_node(self):
        self.sum("(x)", ("name", 1, "x"))
        self.sum("((x))", ("name", 2, "x"))
        self.sum("(x).w", ("read", 3, ("name", 1, "x"), "w"))
        self.sum("(x+1).w", ("read", 5, ("add", 2, ("name", 1, "x"), ("plain", 3, ONE)), "w"))
        self.sum("(x)(x)", ("call", 3, ("name", 1, "x"), (("name", 4, "x"),)))
        self.sum("(above.w)", ("above", 1, "w"))


class Steps(Case):
    def test_none(self):
        self.steps("")

    def test_sets(self):
        self.steps("x=1;", ("set", 1, "x", ("plain", 2, ONE)))
        self.steps("x=x==y;", ("set", 1, "x", ("same", 3, ("name", 2, "x"),
                                                                          ("name", 4, "y"))))

    def test_writes(self):
        x = ("name", 0, "x")
        self.steps("x.w=1;", ("write", 3, x, "w", ("plain", 4, ONE)))
        self.steps("x.w.v=1;", ("write", 5, ("read", 1, x, "w"), "v", ("plain", 6, ONE)))
        self.steps("x().v=1;", ("write", 5, ("call", 1, x, ()), "v", ("plain", 6, ONE)))
        self.steps("(x).v=x;", ("write", 5, ("name", 1, "x"), "v", ("name", 6, "x")))
        self.steps("(x<1).v=x;", ("write", 7, ("less", 2, ("name", 1, "x"), ("plain", 3, ONE)), "v", ("name", 8, "x")))
        self.steps("1 .v=x;", ("write", 3, ("plain", 0, ONE), "v", ("name", 4, "x")))
        self.steps("above.w.v=x;", ("write", 5, ("above", 0, "w"), "v", ("name", 6, "x")))

    def test_drops(self):
        self.steps("drop x.w;", ("drop", 0, ("name", 1, "x"), "w"))
        self.steps("drop x.w.v;", ("drop", 0, ("read", 2, ("name", 1, "x"), "w"), "v"))
        self.steps("drop x().w;", ("drop", 0, ("call", 2, ("name", 1, "x"), ()), "w"))
        self.steps("drop above.w.v;", ("drop", 0, ("above", 1, "w"), "v"))
        self.steps("drop (x+1).w;", ("drop", 0, ("add", 3, ("name", 2, "x"), ("plain", 4, ONE)), "w"))

    def test_ifs(self):
        x, calm = ("name", 1, "x"), ("calm", 3)
        self.steps("if x{}", ("if", 0, x, (), ()))
        self.steps("if x{calm;}", ("if", 0, x, (calm,), ()))
        self.steps("if x{}else{}", ("if", 0, x, (), ()))
        self.steps("if x{calm;}else{}", ("if", 0, x, (calm,), ()))
        self.steps("if x{}else{calm;}", ("if", 0, x, (), (("calm", 6),)))
        self.steps("if x{calm;}else{calm;calm;}", ("if", 0, x, (calm,), (("calm", 8), ("calm", 10))))
        self.steps("if x{if x{}else{calm;}}",
                   ("if", 0, x, (("if", 3, ("name", 4, "x"), (), (("calm", 9),)),), ()))

    def test_whiles(self):
        self.steps("while x{}", ("while", 0, ("name", 1, "x"), ()))
        self.steps("while x<1{x;calm;}", ("while", 0, ("less", 2, ("name", 1, "x"), ("plain", 3, ONE)), (
            ("do", 6, ("name", 5, "x")), ("calm", 7))))

    def test_guards(self):
        self.steps("guard{}else e{}", ("guard", 0, (), "e", ()))
        self.steps("guard{calm;}else e{e;}", ("guard", 0, (("calm", 2),), "e", (("do", 9, ("name", 8, "e")),)))
        self.steps("guard{guard{}else a{}}else b{}", ("guard", 0, (("guard", 2, (), "a", ()),), "b", ()))

    def test_gives_calms_and_sums(self):
        self.steps("give x;", ("give", 0, ("name", 1, "x")))
        self.steps("calm;", ("calm", 0))
        self.steps("x;x;", ("do", 1, ("name", 0, "x")), ("do", 3, ("name", 2, "x")))
        self.steps("x.w;", ("do", 3, ("read", 1, ("name", 0, "x"), "w")))
        self.steps("x.w==1;", ("do", 5, ("same", 3, ("read", 1, ("name", 0, "x"), "w"), ("plain", 4, ONE))))
        self.steps("x.w+1<2;", ("do", 7, ("less", 5, ("add", 3, ("read", 1, ("name", 0, "x"), "w"), ("plain", 4, ONE)),
                                         ("plain", 6, ("number", 2)))))

    def test_one_behind_the_other(self):
        self.steps("x=1;drop x.w;give x;", ("set", 1, "x", ("plain", 2, ONE)), ("drop", 4, ("name", 5, "x"), "w"),
                   ("give", 9, ("name", 10, "x")))


class Tokens(unittest.TestCase):
    """What stands between tokens, and the longest token."""

    def test_blanks_and_line_feeds(self):
        tokens = 'deed f ( x , y = "a b" ) { x . w = y + 1 ; if x == y { } give none ; }'.split(" ")
        tokens = tokens[:7] + ['"a b"'] + tokens[9:]
        told = read(" ".join(tokens))
        for between in ("  ", "\n", "\n\n ", " \n"):
            self.assertEqual(read(between.join(tokens)), told)
            self.assertEqual(read(between + between.join(tokens) + between), told)
        self.assertEqual(read('deed f(x,y="a b"){x.w=y+1;if x==y{}give none;}'), told)

    def test_the_longest_is_taken(self):
        # Each text is refused where the tokens of its longest reading say. The steps begin at 5.
        for text, place in (("deed f(){007;}", 6), ("deed f(){00;}", 6), ("deed f(){1000000001;}", 6),
                            ("deed f(){10000000000;}", 6), ("deed f(){2000000000;}", 6), ("deed f(){9999999999;}", 6),
                            ("deed f(){abcdefghij;}", 6), ("deed abcdefghi(){}", 2), ("deedf(){}", 0),
                            ("deed f(){x===y;}", 7),
                            ("deed f(){x = = y;}", 7), ("deed f(){gives;calms;ifx{}}", 10), ("deed f(){1x;}", 6),
                            ('deed f(){"a""b";}', 6), ("deed f(){noneyes;give nonex;yesno y;}", 11)):
            with self.assertRaises(NoSource) as caught:
                read(text)
            self.assertEqual(caught.exception.place, place, text)

    def test_longest_ones_that_stand(self):
        self.assertEqual(read("deed f(){x=y==z;}")[3], (("set", 6, "x", ("same", 8, ("name", 7, "y"),
                                                                         ("name", 9, "z"))),))
        # Kept names are the beginnings of others.
        for name in ("gives", "giv", "nones", "yesno", "whiles", "elsex", "whilexyz"):
            self.assertEqual(read("deed f(){" + name + ";}")[3], (("do", 6, ("name", 5, name)),))
        # Figures end a name, and letters end a number.
        self.assertEqual(read("deed f(){if 1{}}")[3], (("if", 5, ("plain", 6, ONE), (), ()),))
        self.assertEqual(read("deed f(){if1{}}")[3], (("if", 5, ("plain", 6, ONE), (), ()),))
        self.assertEqual(read("deed f(){give 1+1;}"), read("deed f(){give1+1;}"))
        self.assertEqual(read('deed f(){give"a";}')[3], (("give", 5, ("plain", 6, ("text", "a"))),))
        # Eight letters end a name, too: behind it a kept one may begin.
        self.assertEqual(read("deed f(){guard{}else abcdefgh{}}")[3], (("guard", 5, (), "abcdefgh", ()),))
        with self.assertRaises(NoSource) as caught:
            read("deed f(){abcdefghif x{};}")
        self.assertEqual(caught.exception.place, 6)

    def test_kept_names(self):
        self.assertEqual(len(KEPT), 12)
        for name in KEPT:
            for text, place in (("deed " + name + "(){}", 1), ("deed f(" + name + "){}", 3),
                                ("deed f(x," + name + "){}", 5),
                                ("deed f(){x." + name + ";}", 7), ("deed f(x){above." + name + ";}", 8),
                                ("deed f(){guard{}else " + name + "{}}", 9), ("deed f(){drop x." + name + ";}", 8)):
                with self.assertRaises(NoSource) as caught:
                    read(text)
                self.assertEqual(caught.exception.place, place, text)


class Drawn(unittest.TestCase):
    def test_drawn_trees(self):
        whole = 0
        for seed in range(1500):
            source = random.Random(seed)
            bare = Draw(source).deed(source.choice([1, 2, 2, 3]))
            writer = Write(source, source.choice([0, 0.2, 0.4]))
            tree = writer.deed(bare)
            for text in (" ".join(writer.tokens), spaced(source, writer.tokens)):
                self.assertEqual(tokens_of(text), writer.tokens)
                try:
                    self.assertEqual(read(text), tree)
                    whole += len(writer.tokens) > 40
                except TooBig:
                    self.assertGreater(len(writer.tokens), 40)
        self.assertGreater(whole, 300)


if __name__ == "__main__":
    unittest.main()
