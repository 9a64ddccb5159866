"""Promise [24]: trees shown as texts, brackets about a sum just where they are needed."""

import random
import unittest

from second_source import Draw, Write, bare_of, spaced, tokens_of
from swiftkin.errors import KinError, TooBig
from swiftkin.source import read, show


def closing(tokens, at):
    """Tell where the bracket that is opened here is closed."""
    deep = 0
    for place in range(at, len(tokens)):
        deep += (tokens[place] == "(") - (tokens[place] == ")")
        if deep == 0:
            return place


def about_sums(tokens):
    """Tell the pairs of brackets that stand about a sum: not those of the takes or of a call."""
    pairs = []
    for at, token in enumerate(tokens):
        ahead = tokens[at - 1]
        part_ahead = ahead == ")" or ahead[0] == '"' or ahead[0].isdigit() or ahead in ("yes", "no", "none") or (
            ahead[0].isalpha() and ahead not in ("if", "while", "give", "drop", "else", "guard", "deed"))
        if token == "(" and not part_ahead:
            pairs.append((at, closing(tokens, at)))
    return pairs


class Case(unittest.TestCase):
    def shown(self, text, told=None):
        """A text is shown so: as it is, with a blank between its tokens, if nothing else is told."""
        tree = read(text)
        shown = " ".join(tokens_of(text)) if told is None else told
        self.assertEqual(show(tree), shown)
        self.assertEqual(bare_of(read(shown)), bare_of(tree))
        self.assertEqual(show(read(shown)), shown)

    def step(self, step, told=None):
        head = "deed f ( x ) { "
        self.shown(head + step + " }", None if told is None else head + told + " }")

    def sum(self, sum_, told=None):
        told = sum_ if told is None else told
        told = " ".join(tokens_of(told))
        for ahead, behind in (("", ";"), ("x =", ";"), ("x . w =", ";"), ("give", ";"), ("if", "{ }"), ("while", "{ }"),
                              ("x ( y ,", ") ;")):
            self.step(" ".join((ahead, sum_, behind)).strip(), " ".join((ahead, told, behind)).strip())


class Shown(Case):
    def test_deeds(self):
        for text in ("deed f(){}", "deed f(x){}", "deed f(x,y){}", "deed f(a,b,c,d){}", 'deed f(x,y="a b"){}',
                     "deed f(x=1){}",
                     "deed f(a=yes,b=no,c=none,d=0){}", 'deed f(x=""){x;}'):
            self.shown(text)

    def test_steps(self):
        for step in ("x=1;", "x.w=1;", "x.w.v=x;", "drop x.w;", "drop x.w().v;", "give x;", "calm;", "x;", "x.w;",
                     "above.w;", "x(1);",
                     "if x{}", "if x{calm;}", "if x{}else{calm;}", "if x{calm;}else{calm;calm;}", "while x{}",
                     "while x{calm;}",
                     "guard{}else e{}", "guard{calm;}else e{x;}", "if x{if y{}else{z;}}else{while x{}}", "above.w.v=1;",
                     "drop above.w.v;", "x=1;x.w=2;drop x.w;give x;calm;"):
            self.step(step)

    def test_an_empty_else_is_none(self):
        self.step("if x { } else { }", "if x { }")
        self.step("if x { calm ; } else { }", "if x { calm ; }")

    def test_plain_ones(self):
        for text in ("0", "7", "1000000000", '""', '"a"', '"  a  b  "', '"(x)"', "yes", "no", "none", '"x" + "y"',
                     '"{};,.+<=="'):
            self.sum(text)

    def test_sums_without_brackets(self):
        for text in ("x", "x.w", "x.w.v", "x()", "x(1,2,3,4)", "x()()", "x.w(1).v", "x+y", "x+y+z", "x+y.w+z()", "x<y",
                     "x==y", "x+y<z+x",
                     "x+y==z", "above.w", "above.w.v", "above.w()", "above.w+above.v", "1 .w", '"a".w',
                     "x(x<y,x==y,x+y)", "yes()"):
            self.sum(text)

    def test_brackets_that_are_needed(self):
        for text in ("x+(y+z)", "(x<y)<z", "x<(y<z)", "(x==y)==z", "x==(y==z)", "(x<y)+z", "x+(y<z)", "x+(y==z)",
                     "(x+y).w", "(x+y)()",
                     "(x<y).w", "(x==y)(1)", "((x<y)+z).w", "x+(y+(z+x))", "(x<y)==(y<z)", "(x+y).w+z", "x+(y+z)+x",
                     "(x+(y+z))()"):
            self.sum(text)

    def test_brackets_that_are_not(self):
        for text, told in (("(x)", "x"), ("((x))", "x"), ("(x).w", "x.w"), ("(x.w)", "x.w"), ("(x.w).v", "x.w.v"),
                           ("(x)()", "x()"),
                           ("(x())()", "x()()"), ("((x)+y)+z", "x+y+z"), ("(x)+(y)", "x+y"), ("x+(y.w)", "x+y.w"),
                           ("(x+y)<(z)", "x+y<z"),
                           ("x<(y+z)", "x<y+z"), ("(x<y)", "x<y"), ("x((y))", "x(y)"),
                           ("x((y<z),(y+z))", "x(y<z,y+z)"), ("(1).w", "1 .w"),
                           ("(above.w)", "above.w"), ("(above.w).v", "above.w.v"), ("x+((y+z))", "x+(y+z)"),
                           ("(x+(y))", "x+y"),
                           ("((x<y))+z", "(x<y)+z")):
            self.sum(text, told)

    def test_brackets_of_targets(self):
        self.step("( x ) . w = 1 ;", "x . w = 1 ;")
        self.step("( x + y ) . w = 1 ;")
        self.step("( x < y ) . w = ( 1 ) ;", "( x < y ) . w = 1 ;")
        self.step("( x . w ) . v = 1 ;", "x . w . v = 1 ;")
        self.step("( above . w ) . v = 1 ;", "above . w . v = 1 ;")
        self.step("drop ( x ) . w ;", "drop x . w ;")
        self.step("drop ( x + y ) . w ;")
        self.step("drop ( x == y ) . w ;")
        self.step("drop ( above . w ) . v ;", "drop above . w . v ;")
        self.step("( x ) ;", "x ;")
        self.step("( x ) == y ;", "x == y ;")
        self.step("( x . w ) ;", "x . w ;")


class Drawn(Case):
    def trees(self, seeds, depths):
        """Draw trees that are read, with their texts, in which brackets stand here and there."""
        for seed in seeds:
            source = random.Random(seed)
            writer = Write(source, source.choice([0, 0.1, 0.3]))
            bare = Draw(source).deed(source.choice(depths))
            tree = writer.deed(bare)
            try:
                yield source, bare, tree, read(spaced(source, writer.tokens))
            except TooBig:
                pass

    def test_read_again_it_is_the_tree(self):
        many = 0
        for source, bare, tree, told in self.trees(range(1200), [1, 2, 3]):
            self.assertEqual(told, tree)
            shown = show(tree)
            again = read(shown)
            self.assertEqual(bare_of(again), bare)
            self.assertEqual(show(again), shown)
            self.assertEqual(shown, " ".join(tokens_of(shown)))
            plain = Write(source)
            plain.deed(bare)
            self.assertEqual(shown, " ".join(plain.tokens))
            many += len(plain.tokens) > 40
        self.assertGreater(many, 250)

    def test_without_a_pair_of_brackets_another_tree_is_read(self):
        many = 0
        for _, bare, tree, _ in self.trees(range(2000, 2900), [2, 3]):
            tokens = tokens_of(show(tree))
            for opened, closed in about_sums(tokens):
                less = " ".join(tokens[:opened] + tokens[opened + 1:closed] + tokens[closed + 1:])
                many += 1
                try:
                    self.assertNotEqual(bare_of(read(less)), bare, less)
                except KinError:
                    pass
        self.assertGreater(many, 300)

    def test_what_is_handed_in_stays(self):
        for _, _, tree, _ in self.trees(range(50), [2]):
            before = repr(tree)
            show(tree)
            self.assertEqual(repr(tree), before)


if __name__ == "__main__":
    unittest.main()
