"""Promise [23]: sources that are refused, with the place of the token that can't stand, or as too big."""

import random
import unittest

from second_source import KEPT, Draw, Write, refused_place, spaced, tokens_of
from swiftkin.errors import KinError, NoSource, TooBig
from swiftkin.source import read

POOL = ["x", "y", "12", '"t"', *KEPT, *"(){}.,;+<=", "==", "?"]


class Case(unittest.TestCase):
    def refusal(self, text):
        """Tell the refusal of a text, or None where it is read."""
        try:
            read(text)
        except KinError as refusal:
            return refusal
        return None

    def no_source(self, place, text):
        """The text is refused with NoSource at this place, by the second way, too."""
        refusal = self.refusal(text)
        self.assertIs(type(refusal), NoSource, text)
        self.assertEqual((type(refusal.place), refusal.place), (int, place), text)
        self.assertEqual(refused_place(text), place, text)

    def too_big(self, text):
        self.assertIs(type(self.refusal(text)), TooBig, text)

    def fits(self, text):
        self.assertIsNone(self.refusal(text), text)


class NoSources(Case):
    def marked(self, *texts, head="deed f(){"):
        """Each text is refused at the token behind the mark @."""
        for text in texts:
            ahead, behind = (head + text).split("@")
            self.no_source(len(tokens_of(ahead)), ahead + behind)

    def test_more_is_due(self):
        text = "deed f ( x , y = 1 ) { x . w = y ( ) ; if x { } else { } guard { } else e { calm ; } }"
        tokens = text.split(" ")
        self.fits(text)
        for many in range(len(tokens)):
            self.no_source(many, " ".join(tokens[:many]))
        self.no_source(0, "")
        self.no_source(0, " \n ")

    def test_more_than_a_deed(self):
        for more in ("x", "}", "{", ";", "deed", "deed g(){}", "?", "1", '"a"', "else{}"):
            self.no_source(6, "deed f(){}" + more)

    def test_signs_that_begin_none(self):
        for sign in "\t-*/!#$&'>:?[]^_`|~ABZ\"%\\@":
            for text, place in ((sign, 0), ("deed" + sign + "f(){}", 1), ("deed f(){" + sign + "}", 5),
                                ("deed f(){x;" + sign, 7),
                                ("deed f(){}" + sign, 6), ("deed f(){x" + sign + ";}", 6)):
                self.no_source(place, text)

    def test_texts_that_are_none(self):
        for text in ("x" * 21, "a\tb", "a\nb", "a\n", "\t", "\n"):
            self.no_source(5, 'deed f(){"' + text + '";}')
        for text in ("", "abc", "x" * 20, "x" * 21):
            self.no_source(5, 'deed f(){"' + text)
        self.no_source(6, 'deed f(){"a" "')
        # The first two are a text, and the third begins none.
        self.no_source(6, 'deed f(){""";}')
        self.fits('deed f(){"' + "x" * 20 + '";}')

    def test_takes(self):
        self.marked(
            "a,@a){}", "a,b,c,@a){}", "a,b,@a){}", "a=1,@a){}", "a=1,@a=2){}", "a=1,b@){}", "a=1,b@,c){}",
            "a,b=1,c@){}",
            "a,b,c,d@,e){}", "a,b,c,d@,){}", "a=1,b=1,c=1,d=1@,e=1){}", "a @b){}", "@,){}", "a,@){}", "a=@b){}",
            "a=@(1)){}",
            "a=@-1){}", "a=1@+1){}", "@1){}", "a=@above.w){}", "a@==1){}", '@"a"){}', "a@.b){}", "@(){}", "a=@){}",
            "a@;){}",
            head="deed f(")

    def test_a_take_named_twice_goes_first(self):
        self.marked("a,@a,a,a,a){?", "a @a){}", "a,b,@b,a){}", head="deed f(")
        self.no_source(1, "deed 1(a,a){}")

    def test_above_where_nothing_is_taken(self):
        self.marked("@above.w;}", "y.x(@above.w);}", "x=1+@above.w;}", "@above}", "drop @above.w.v;}", "if @above.w{}}")
        self.fits("deed f(a){above.w;}")
        self.marked("above@;}", "above@()}", "above@ w}", "above.@;}", "above.@1;}", "above.@above;}", "above.w@=1;}",
                    "above.w@}",
                    "above@=1;}", "above.w @w;}", head="deed f(a){")

    def test_sets_and_writes(self):
        self.marked(
            "x@}", "x @y}", "x=@;}", "x=1@}", "x=y@=1;}", "1@=1;}", "(x)@=1;}", "(x.w)@=1;}", "x()@=1;}", "x+y@=1;}",
            "x+y.w@=1;}",
            "x<y@=1;}", "x<y.w@=1;}", "x.w()@=1;}", "x.w@}", "x.w=@}", "x.w=@;}", "x.@1=1;}", "x.w=y@=1;}",
            "x.w=y.w@=1;}", "yes@=1;}",
            "@=1;}", "@==1;}", "@.w=1;}", "x@,y;}", "(x+y@=1);}", "x@{}}", "(x+y)@=1;}", "x=x@=1;}")

    def test_drops(self):
        self.marked(
            "drop @;}", "drop x@;}", "drop x()@;}", "drop (x)@;}", "drop (x.w)@;}", "drop x@+y.w;}", "drop x.w@+1;}",
            "drop x.w@=1;}",
            "drop x.w@<1;}", "drop x.@;}", "drop x.w@}", "drop @=;}", "drop @drop x.w;}", "drop x.w()@;}",
            "drop x@=1;}", "drop 1@;}")
        self.marked("drop above.w@;}", head="deed f(a){")

    def test_sums(self):
        self.marked(
            "x<y@<z;}", "x==y@==z;}", "x<y@==z;}", "x==y@<z;}", "x+@;}", "@+x;}", "x+@+y;}", "x<@;}", "(@);}", "(x@;}",
            "x@);}",
            "(x @y);}", "x.@;}", "x.@.w;}", "x.@(w);}", "x(@;}", "x(@,y);}", "x(y,@);}", "x(y @z);}",
            "x(1,2,3,4@,5);}", "x(1,2,3,4@,);}",
            "x(y@;}", "x(y@=1);}", "x(y@};}", "x @1;}", 'x@"a";}', "x @yes;}", "x+y @z;}", "(x@,y);}", "(x@=1);}",
            "x+@give y;}",
            "x=@calm;}", "x+y+@;}", "x(@calm);}", "x.w @w;}", "(x)@x;}", "x==@=y;}")

    def test_steps(self):
        self.marked(
            "if @;}", "if @{}}", "if x@;}", "if x@}", "@else{}}", "if x{}else@;}", "if x{}else{@",
            "if x{}else @if x{}}",
            "if x{}else{}@else{}}", "if x<@{}}", "if x@=y{}}", "while @;}", "while @{}}", "while x@;}",
            "while x{}@else{}}", "guard@;}",
            "guard @x{}}", "guard{}@;}", "guard{}@}", "guard{}else@{}}", "guard{}else @1{}}", "guard{}else x@;}",
            "guard{}else x{}@else{}}", "give@;}", "give@=1;}", "give x@}", "give x @y;}", "calm@}", "calm @x;}",
            "calm@();}", "@;}",
            "@{}}", "@deed}", "x@}", "none@}", "@,}", "@)}", "@]}", "}@}", "calm;@;}", "guard{x@}else e{}}")

    def test_heads(self):
        self.marked(
            "@f(){}", "@x deed f(){}", "deed @(){}", "deed @1(){}", "deed f@{}", "deed f @g(){}", "deed f()@",
            "deed f()@;", "deed f()@x;",
            "deed f(){@", "deed f(@{}", "@{}", "@(", "deed f@=(){}", "deed @deed(){}", '@"deed"f(){}', "deed f(@(){}",
            "deed f()@(){}",
            head="")


class Bent(Case):
    """Drawn sources, each token left out, twice, exchanged by another, or another put ahead of it."""

    def bent(self, source, tokens):
        for at in range(len(tokens) + 1):
            ahead, token, behind = tokens[:at], tokens[at:at + 1], tokens[at + 1:]
            yield ahead
            yield ahead + behind
            yield ahead + token * 2 + behind
            for other in source.sample(POOL, 4):
                yield ahead + [other] + behind
                yield ahead + [other] + token + behind
            if behind:
                yield ahead + behind[:1] + token + behind[1:]

    def drawn(self, source, low, high):
        while True:
            writer = Write(source, 0.15)
            writer.deed(Draw(source).deed(2))
            if low <= len(writer.tokens) <= high:
                return writer.tokens

    def test_bent_at_one_token(self):
        refused = read_all_the_same = 0
        for seed in range(45):
            source = random.Random(seed)
            for tokens in self.bent(source, self.drawn(source, 10, 50)):
                text = spaced(source, tokens)
                place = refused_place(text)
                if place is not None:
                    self.no_source(place, text)
                    refused += 1
                elif not isinstance(self.refusal(text), TooBig):
                    self.fits(text)
                    read_all_the_same += 1
        self.assertGreater(refused, 5000)
        self.assertGreater(read_all_the_same, 300)

    def test_each_token_exchanged_by_each_other_one(self):
        tokens = tokens_of('deed f(x,y=1){x.w=y(1)+2;drop x.w;if x<y{give"a";}else{calm;}'
                           'while(no){}guard{above.w;}else e{}}')
        self.fits(" ".join(tokens))
        for at in range(len(tokens)):
            for other in POOL:
                text = " ".join(tokens[:at] + [other] + tokens[at + 1:])
                place = refused_place(text)
                if place is None:
                    self.fits(text)
                else:
                    self.no_source(place, text)


class TooBigs(Case):
    def deed(self, *steps):
        return "deed f ( ) { " + " ".join(steps) + " }"

    def wide(self, many):
        """A source of so many tokens, of few rows."""
        # 23 tokens and 2 rows each; a calm has two tokens, brackets have two.
        give = "give " + "( " * 10 + "x " + ") " * 10 + ";"
        steps = [give] * 8 + ["calm ;"] * ((many - 190) // 2)
        text = self.deed(*steps) if many % 2 == 0 else self.deed(*steps).replace("( )", "( a )", 1)
        self.assertEqual(len(tokens_of(text)), many)
        return text

    def test_two_hundred_tokens(self):
        for many in (198, 199, 200):
            self.fits(self.wide(many))
        for many in (201, 202, 203, 240):
            self.too_big(self.wide(many))

    def test_a_token_that_cant_stand_behind_two_hundred(self):
        # Of one token NoSource comes first; of two the one ahead.
        self.no_source(200, self.wide(200) + " x")
        self.no_source(200, self.wide(200) + " ?")
        self.no_source(199, self.wide(199) + " x x")
        self.too_big(self.wide(202) + " x")
        tokens = tokens_of(self.wide(202))
        self.no_source(200, " ".join(tokens[:200]))
        self.too_big(" ".join(tokens[:201]))
        self.no_source(200, " ".join(tokens[:200] + ["="]))
        self.no_source(200, " ".join(tokens[:200] + ["\t"]))
        self.no_source(199, " ".join(tokens[:199] + ["=", "="]))
        self.too_big(" ".join(tokens[:201] + ["="]))
        self.no_source(30, " ".join(tokens[:30] + ["?"] + tokens[30:]))

    def test_twelve_open_brackets(self):
        # The block is one of them.
        self.fits(self.deed("( " * 11 + "x " + ") " * 11 + ";"))
        self.too_big(self.deed("( " * 12 + "x " + ") " * 12 + ";"))
        self.fits(self.deed("x ( " * 11 + ") " * 11 + ";"))
        self.too_big(self.deed("x ( " * 12 + ") " * 12 + ";"))
        self.fits(self.deed("while x { " * 11 + "} " * 11))
        self.too_big(self.deed("while x { " * 12 + "} " * 12))
        self.fits(self.deed("guard { " * 8 + "( ( x ( ) ) ) ;" + "} else e { } " * 8))
        self.too_big(self.deed("guard { " * 8 + "( ( ( x ( ) ) ) ) ;" + "} else e { } " * 8))
        self.fits(self.deed("x = " + "( " * 11 + "x " + ") " * 11 + ";", "x = " + "( " * 11 + "x " + ") " * 11 + ";"))
        # Brackets that are closed are open no more.
        self.fits(self.deed("( x ) ; " * 12))
        self.fits(self.deed("if x { } else { } " * 8))

    def test_a_thirteenth_one_that_cant_stand(self):
        ahead = "deed f ( ) { " + "( " * 11
        self.too_big(ahead + "(")
        self.no_source(16, ahead + "{")
        self.no_source(16, ahead)
        self.no_source(17, ahead + "x {")
        self.no_source(17, ahead + "x ?")
        self.too_big(ahead + "x (")
        # What comes first is told.
        self.too_big(ahead + "( ?")
        self.too_big(ahead + "( = ")
        self.no_source(16, ahead + "? (")
        self.no_source(17, ahead + "x x (")
        blocks = "deed f ( ) { " + "while x { " * 11
        self.too_big(blocks + "while x {")
        self.no_source(40, blocks + "while x ;")
        self.no_source(38, blocks + "{")
        self.too_big(blocks + "x (")
        self.too_big(blocks + "(")
        self.no_source(38, blocks)

    def test_forty_rows(self):
        self.fits(self.deed("calm ; " * 38))
        self.too_big(self.deed("calm ; " * 39))
        self.fits(self.deed("x ; " * 19))
        self.too_big(self.deed("x ; " * 19, "calm ;"))
        self.fits(self.deed("if x { } else { calm ; } " * 9, "x ;"))
        self.too_big(self.deed("if x { } else { calm ; } " * 9, "x ; calm ;"))
        self.fits(self.deed("guard { } else e { } " * 19))
        self.too_big(self.deed("guard { } else e { } " * 19, "calm ;"))
        # Also where no way leads to them.
        self.fits(self.deed("give x ; ", "calm ; " * 36))
        self.too_big(self.deed("give x ; ", "calm ; " * 37))

    def test_eight_guards(self):
        guard = "guard { calm ; } else e { } "
        self.fits(self.deed(guard * 8))
        self.too_big(self.deed(guard * 9))
        self.fits(self.deed(guard * 8, "guard { } else e { } " * 4))
        self.too_big(self.deed("guard { } else e { } " * 2, guard * 9))
        self.fits(self.deed("guard { " * 8 + "calm ; " + "} else e { } " * 8))
        self.too_big(self.deed("guard { " * 9 + "calm ; " + "} else e { } " * 9))
        self.too_big(self.deed("give x ; ", guard * 9))

    def test_stacks_of_sixteen(self):
        def calls(inner):
            return "x ( 1 , 2 , 3 , x ( 1 , 2 , 3 , x ( 1 , 2 , 3 , " + inner + " ) ) ) "
        self.fits(self.deed(calls("x ( 1 , 2 , 3 )"), ";"))
        self.too_big(self.deed(calls("x ( 1 , 2 , 3 , 4 )"), ";"))
        self.fits(self.deed("y =", calls("x ( 1 , 1 + 2 )"), ";"))
        self.too_big(self.deed("y =", calls("x ( 1 , 2 , 1 + 2 )"), ";"))
        self.fits(self.deed("y =", calls("x ( 1 , 2 + 3 + 4 )"), ";"))
        self.too_big(self.deed("y =", calls("x ( 1 , 2 + ( 3 + 4 ) )"), ";"))
        self.fits(self.deed("y . w =", calls("x ( 1 , 2 )"), ";"))
        self.too_big(self.deed("y . w =", calls("x ( 1 , 2 , 3 )"), ";"))
        self.too_big(self.deed("while", calls("x ( 1 , 2 , 3 , 4 )"), "{ }"))
        self.fits(self.deed("while", calls("x ( 1 , 2 , 3 )"), "{ }"))
        # No way leads behind the give, so no way is too high there.
        self.fits(self.deed("give x ;", calls("x ( 1 , 2 , 3 , 4 )"), ";"))
        # But out of a guard's fall one does.
        self.too_big(self.deed("guard { give x ; } else e {", calls("x ( 1 , 2 , 3 , 4 )"), "; }"))
        self.fits(self.deed("guard { } else e {", calls("x ( 1 , 2 , 3 , 4 )"), "; }"))

    def test_no_source_goes_ahead_of_a_big_code(self):
        # 5 tokens stand ahead of the steps.
        self.no_source(5 + 39 * 2, self.deed("calm ; " * 39)[:-2])
        self.no_source(5 + 39 * 2 + 1, self.deed("calm ; " * 39) + " x")
        self.no_source(5 + 9 * 9, self.deed("guard { calm ; } else e { } " * 9, "?"))


if __name__ == "__main__":
    unittest.main()
