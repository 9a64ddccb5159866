"""Promises [3], [25]: walks of trees, held against the runs of their compiled codes, plain and quick."""

import random
import unittest

from drawn import NOT_WORTHS
from drawn_code import DEEDS, KINDS, PLAIN, WORDS, draw_changes, draw_worth
from plains import NO, NONE, NOT, YES, Kin, number, push, text, thing
from second_source import Draw, Write
from swiftkin import walk as module
from swiftkin.compiled import compiled
from swiftkin.errors import KinError, NoSteps, NoWorth, TooBig
from swiftkin.plain import Plain
from swiftkin.quick import Quick
from swiftkin.source import read
from swiftkin.walk import walk
from swiftkin.world import world_of
from worlds import snapshot


def make_deed(world, tree, code):
    """Make the deed of a tree."""
    takes = tuple(take[0] for take in tree[2])
    worths = tuple(take[1] for take in tree[2] if len(take) > 1)
    world.deed(tree[1], code, takes=takes, worths=worths)


def placed(end, tree, places):
    """Tell the end of a run with the place of the node where the walk has it: of the outermost call alone."""
    if end[0] == "gave" or not end[-1]:
        return end
    (name, row), *within = end[-1]
    assert name == tree[1]
    return end[:-1] + (((name, places[row]), *within),)


class Both(unittest.TestCase):
    """Walks and runs in worlds alike."""

    def both(self, world, tree, arguments, most=400):
        """Walk in a world made anew; run the code in others. Tell the walk's end, steps and changes.

        Unless one of them is tired, the ends, the changes and the worlds are the same.
        """
        code, places = compiled(tree)
        log = world.log()
        walked = world_of(log)
        make_deed(walked, tree, code)
        before = repr((tree, arguments))
        told = walk(walked, tree, arguments, most=most)
        self.assertEqual(repr((tree, arguments)), before)
        end, steps = told
        self.assertEqual((type(told), type(end), type(steps)), (tuple, tuple, int))
        self.assertLessEqual(steps, most)
        for make in (Plain, Quick, lambda some: Quick(some, answers=1)):
            ran = world_of(log)
            make_deed(ran, tree, code)
            run_end, run_steps = make(ran).run(tree[1], arguments)
            self.run_end = run_end
            if "tired" in (end[0], run_end[0]):
                continue
            self.assertEqual(placed(run_end, tree, places), end)
            self.assertEqual(ran.log(), walked.log())
            self.assertEqual(ran, walked)
            self.assertEqual(snapshot(ran), snapshot(walked))
            self.assertLess(run_steps, 401)
        if end[0] == "tired":
            self.assertEqual((end, steps), (("tired", ()), most))
        return end, steps, walked.log()[len(log) + 1:]

    def bounds(self, world, tree, arguments, bounds=None):
        """Walks with each bound: tired, with a beginning of the changes, below what it takes; else alike."""
        end, steps, changes = self.both(world, tree, arguments)
        if end[0] == "tired":
            return
        for most in bounds or range(steps + 3):
            less = self.both(world, tree, arguments, min(most, 400))
            if most >= steps:
                self.assertEqual(less, (end, steps, changes))
            else:
                self.assertEqual(less[:2], (("tired", ()), most))
                self.assertEqual(less[2], changes[:len(less[2])])


class ByHand(Both, Kin):
    """Kinds top, low below it, and other; thing 0 of low; a deed me that gives what it takes."""

    def walks(self, source, end, *arguments, changes=None):
        """The deed of a source ends so, and the bounds are kept."""
        tree = read(source)
        told, steps, changed = self.both(self.world, tree, arguments)
        self.assertEqual(told, end, source)
        if changes is not None:
            self.assertEqual(changed, changes)
        self.bounds(self.world, tree, arguments)
        return steps

    def test_where_it_is_defined(self):
        self.assertEqual(walk.__module__, module.__name__)

    def test_arguments_and_bound_may_be_left_out(self):
        self.assertEqual(walk(self.world, read("deed f(){give 1;}"))[0], ("gave", number(1)))
        self.assertEqual(walk(self.world, read("deed f(x=2){give x;}"))[0], ("gave", number(2)))

    def test_by_the_tree_alone(self):
        # No deed of this name is there.
        self.assertEqual(walk(self.world, read("deed zz(x){give x;}"), (NOT,))[0], ("gave", NOT))
        # One that is there is left aside.
        self.assertEqual(walk(self.world, read("deed me(x){give 7;}"), (NOT,))[0], ("gave", number(7)))
        self.assertEqual(len(self.world.log()), 5)

    def test_takes(self):
        for arguments in ((), (NONE,) * 3, (NONE,) * 8):
            steps = self.walks("deed f(x,y=1){give x;}", ("fell", "takes", ()), *arguments, changes=[])
            self.assertEqual(steps, 0)
        self.assertEqual(walk(self.world, read("deed f(){guard{give 1;}else e{}}"), (NONE,), most=0),
                         (("fell", "takes", ()), 0))
        self.walks("deed f(x,y=1){give y;}", ("gave", number(1)), NONE)
        self.walks("deed f(x,y=1){give y;}", ("gave", number(2)), NONE, number(2))
        self.walks("deed f(x=1,y=2,z=3){give (x+y)+z;}", ("gave", number(15)), number(10))
        self.walks('deed f(x="a",y="b"){give x+y;}', ("gave", text("ab")))

    def test_each_sum(self):
        self.world.put("low", "word", number(5))
        self.world.put("top", "deed", ("deed", "me"))
        bound = ("bound", "me", "top", thing(0))
        for source, worth in (
            ("1", number(1)), ("yes", YES), ("no", NO), ("none", NONE), ('"a"', text("a")), ("x", thing(0)),
            ("x.word", number(5)),
            ("x.word+1", number(6)), ("x.word<6", YES), ("6<x.word", NO), ("x==x", YES), ("x==1", NO),
            ('"a"+"b"', text("ab")),
            ("1+(2+3)", number(6)), ("x.word==5", YES), ("(1<2)==yes", YES),
        ):
            self.walks("deed f(x){give " + source + ";}", ("gave", worth), thing(0), changes=[])
        self.world.put("top", "meet", ("deed", "me"))
        self.walks("deed f(x){give x.meet;}", ("gave", bound), thing(0))
        self.walks("deed f(x){give x.meet();}", ("gave", thing(0)), thing(0))
        self.walks("deed f(x,y){give y(x);}", ("gave", thing(0)), thing(0), ("deed", "me"))
        self.walks("deed f(x){give x();}", ("gave", thing(1)), ("kind", "low"), changes=[("thing", "low")])

    def test_each_step(self):
        self.walks("deed f(x){y=1;x=y;give x;}", ("gave", number(1)), NONE, changes=[])
        self.walks("deed f(x){x.word=1;}", ("gave", NONE), thing(0), changes=[("lay", 0, "word", number(1))])
        self.walks("deed f(x){x.word=1;}", ("gave", NONE), ("kind", "low"), changes=[("put", "low", "word", number(1))])
        self.walks("deed f(x){x.word=x;drop x.word;}", ("gave", NONE), thing(0),
                   changes=[("lay", 0, "word", thing(0)), ("lift", 0, "word")])
        self.walks("deed f(x){calm;1;x;}", ("gave", NONE), thing(0), changes=[])
        self.walks("deed f(x){give x;x.word=1;}", ("gave", thing(0)), thing(0), changes=[])
        self.walks("deed f(){}", ("gave", NONE), changes=[])
        # A sum alone leaves no local that the source can get.
        self.walks("deed f(nones){1;give nones;}", ("gave", NOT), NOT)

    def test_ifs(self):
        for worth, true in ((NONE, False), (NOT, False), (YES, True), (NO, False), (number(0), False),
                            (number(-1), True),
                            (text(""), False), (text("a"), True), (thing(0), True), (("kind", "low"), True),
                            (("deed", "me"), True)):
            self.walks("deed f(x){if x{give 1;}else{give 2;}}", ("gave", number(1 if true else 2)), worth)
            self.walks("deed f(x){if x{y=1;}else{y=2;}give y;}", ("gave", number(1 if true else 2)), worth)
            self.walks("deed f(x){if x{give 1;}give 2;}", ("gave", number(1 if true else 2)), worth)
            self.walks("deed f(x){if x{}else{give 2;}give 1;}", ("gave", number(1 if true else 2)), worth)
            self.walks("deed f(x){while x{give 1;}give 2;}", ("gave", number(1 if true else 2)), worth)

    def test_truth_by_words(self):
        self.world.put("low", "truth", ("deed", "me"))
        # It gives the thing, and so falls at the if, or the while.
        self.walks("deed f(x){if x==1{}if x{}}", ("fell", "badtruth", (("f", 12),)), thing(0))
        self.walks("deed f(x){guard{while x{}}else e{give e;}}", ("gave", text("badtruth")), thing(0))
        self.walks("deed f(x){while x{}}", ("fell", "badtruth", (("f", 6),)), thing(0))

    def test_whiles(self):
        self.walks("deed f(x){while x<5{x=x+1;}give x;}", ("gave", number(5)), number(2))
        self.walks("deed f(x){while x<5{x=x+1;if x==4{give x;}}}", ("gave", number(4)), number(2))
        self.walks("deed f(x){y=0;while y<3{x.word=y;y=y+1;}}", ("gave", NONE), thing(0),
                   changes=[("lay", 0, "word", number(n)) for n in range(3)])

    def test_tired(self):
        for source in ("deed f(){while yes{}}", "deed f(){while yes{calm;}}",
                       "deed f(){guard{while 1{}}else e{give 1;}}"):
            tree = read(source)
            for most in (0, 1, 2, 3, 50, 399, 400):
                self.assertEqual(walk(self.world, tree, most=most), (("tired", ()), most))
            self.assertEqual(walk(self.world, tree), (("tired", ()), 400))
        # What was done stays done, and no guard catches it.
        tree = read("deed f(x){guard{x.word=1;while yes{}}else e{x.word=2;}}")
        self.assertEqual(self.both(self.world, tree, (thing(0),)),
                         (("tired", ()), 400, [("lay", 0, "word", number(1))]))

    def test_rows_of_calls_count(self):
        # A deed of thirty rows, called eight times, or fourteen times.
        self.deed("rows", *[("calm",)] * 28, push(NONE))
        tree = read("deed f(x,n){y=0;while y<n{x();y=y+1;}}")
        end, steps, _ = self.both(self.world, tree, (("deed", "rows"), number(8)))
        self.assertEqual(end, ("gave", NONE))
        self.assertGreater(steps, 240)
        self.assertEqual(self.both(self.world, tree, (("deed", "rows"), number(14)))[:2], (("tired", ()), 400))

    def test_falls_with_places(self):
        # Of the node whose row falls; what a call falls by has the rows of the calls within.
        fall = push(number(1))
        self.deed("fall", fall, push(NONE), ("add",), takes=("a",))
        self.world.put("low", "fall", ("deed", "fall"))
        x = thing(0)
        for source, word, place, *within in (
            ("give y;", "nolocal", 7), ("x.zz;", "noword", 7), ("1+none;", "noadd", 7), ("x<1;", "noless", 7),
            ("1();", "nocall", 7),
            ("drop x.zz;", "noword", 6), ("1 .w=2;", "noword", 9), ("drop 1 .w;", "noword", 6),
            ("x=(1+2)+y;", "nolocal", 14),
            ("x=(1+none)+y;", "noadd", 10), ("above.w;", "nohome", 6), ("x.fall();", "noadd", 9, ("fall", 2)),
            ("x.fall(1);", "takes", 9), ("y=x.fall()+1;", "noadd", 11, ("fall", 2)),
            ("if x.fall(){}", "noadd", 10, ("fall", 2)),
            ("if x{x.zz;}", "noword", 10), ("while x{drop x.zz;}", "noword", 9),
            ("guard{calm;}else e{}x.zz;", "noword", 16),
            ("x.w=x.zz;", "noword", 11), ("x=1000000000+1;", "beyond", 9),
        ):
            self.walks("deed f(x){" + source + "}", ("fell", word, (("f", place), *within)), x)

    def test_guards(self):
        self.deed("fall", push(number(1)), push(NONE), ("add",), takes=("a",))
        self.deed("deep", ("get", "a"), ("read", "fall"), ("call", 0), takes=("a",))
        self.world.put("low", "fall", ("deed", "fall"))
        self.world.put("low", "deep", ("deed", "deep"))
        x = thing(0)
        for source, worth in (
            ("guard{x.zz;}else e{give e;}", text("noword")), ("guard{x.zz;}else x{}give x;", text("noword")),
            ("guard{1+(2+x.deep());}else e{give e;}", text("noadd")), ("guard{give 1;}else e{give 2;}", number(1)),
            ("guard{calm;}else e{give 2;}give 3;", number(3)), ("guard{}else e{give 2;}give 3;", number(3)),
            ("guard{guard{y;}else e{e+1;}}else f{give f;}", text("noadd")),
            ("guard{guard{y;}else e{}x.zz;}else f{give f;}", text("noword")),
            ("guard{y;}else e{guard{z();}else f{give e+f;}}", text("nolocalnolocal")),
            ("n=0;while n<3{guard{n=n+1;y;}else e{}}give n;", number(3)),
            ("guard{x.a=1;x.zz;x.b=2;}else e{}give 4;", number(4)), ("guard{if y{}}else e{give e;}", text("nolocal")),
            ("guard{x.w=y;}else e{give e;}", text("nolocal")), ("guard{guard{give 1;}else e{}}else f{}", number(1)),
        ):
            self.walks("deed f(x){" + source + "}", ("gave", worth), x)
        # What falls in the else is not caught by its own guard.
        self.walks("deed f(x){guard{y;}else e{z;}}", ("fell", "nolocal", (("f", 14),)), x)
        self.walks("deed f(x){guard{guard{y;}else e{z;}}else g{give 2;}}", ("gave", number(2)), x)

    def test_twelve_calls(self):
        # The walk is one of the twelve that may be under way.
        self.deed("more", ("get", "n"), push(number(1)), ("less",), ("unless", 6), push(NONE), ("give",), ("get", "x"),
                  ("get", "x"),
                  ("get", "n"), push(number(-1)), ("add",), ("call", 2), takes=("x", "n"))
        deed = ("deed", "more")
        # With n there are n + 1 calls of it within one another.
        self.walks("deed f(x,n){give x(x,n);}", ("gave", NONE), deed, number(10))
        self.walks("deed f(x,n){give x(x,n);}", ("fell", "deep", (("f", 10),) + (("more", 11),) * 11), deed, number(11))
        self.walks("deed f(x,n){guard{give x(x,n);}else e{give e;}}", ("gave", text("deep")), deed, number(11))
        # Behind a fall that is caught as many may be as before.
        self.walks("deed f(x,n){guard{x(x,n);}else e{give x(x,10);}}", ("gave", NONE), deed, number(11))

    def test_no_home(self):
        # A walk has none, also where its tree's name is that of a deed of a kind.
        self.deed("f", push(NONE), takes=("x",))
        self.world.put("low", "f", ("deed", "f"))
        tree = read("deed f(x){above.f;}")
        self.assertEqual(walk(self.world, tree, (thing(0),))[0], ("fell", "nohome", (("f", 6),)))

    def test_refused(self):
        tree = read("deed f(x){give x;}")
        before = snapshot(self.world)
        some = [(NoWorth, (worth,), 400) for worth in NOT_WORTHS + [thing(9), ("kind", "zz"), ("deed", "zz"),
                                                                    ("deed", "f")]]
        some += [(NoWorth, (NONE, [],), -1), (NoWorth, (NONE,) * 9, None), (NoWorth, [NONE], 400), (NoWorth, None, 401)]
        some += [(NoSteps, arguments, most) for arguments in ((NONE,), (), (NONE,) * 8)
                 for most in (-1, 401, 10 ** 20, None, True, False, "5", [5], ())]
        for refusal, arguments, most in some:
            with self.assertRaises(KinError) as caught:
                walk(self.world, tree, arguments, most=most)
            self.assertIs(type(caught.exception), refusal, (arguments, most))
            self.assertEqual(snapshot(self.world), before)


class Likely(Draw):
    """Draws deeds that are likely to do something in a drawn world."""

    TAKES = (("me",), ("you",), ("it", ("number", 1)))

    def deed(self, depth):
        self.has_takes = True
        return ("deed", "src", self.TAKES, tuple(self.guarded(depth) for _ in range(self.one(1, 2, 3, 4))))

    def guarded(self, depth):
        step = self.step(depth)
        return step if self.source.random() < 0.4 else ("guard", (step,), "fall", self.steps(0, 2))

    def asked(self, depth):
        """Draw a sum that is a thing or kind, as a rule."""
        return ("name", self.one("me", "me", "you")) if self.source.random() < 0.85 else super().sum(depth)

    def step(self, depth):
        sort = self.source.randrange(10)
        if sort < 3:
            return ("write", self.asked(depth), self.one(*self.words), self.sum(depth))
        if sort < 4:
            return ("drop", self.asked(depth), self.one(*self.words))
        if sort < 6:
            return ("do", self.sum(depth))
        return super().step(depth)

    def sum(self, depth):
        sort = self.source.randrange(12)
        if depth < 1 or sort < 2:
            return super().sum(depth) if sort < 6 else self.asked(0)
        if sort < 5:
            return ("read", self.asked(depth - 1), self.one(*self.words))
        if sort < 8:
            called = ("read", self.asked(0), self.one(*self.words)) if sort < 7 else self.asked(0)
            return ("call", called, tuple(self.sum(depth - 1) for _ in range(self.one(0, 0, 1))))
        if sort < 11:
            return (self.one("add", "less", "same"), self.asked(depth - 1), self.asked(depth - 1))
        return super().sum(depth)


class Drawn(Both):
    LOCALS = ["me", "you", "it"]

    def sources(self, seeds, depths):
        """Draw worlds, and sources of deeds whose words are theirs."""
        plain = [worth for worth in PLAIN if worth != ("not",) and worth != ("number", -1)]
        for seed in seeds:
            source = random.Random(seed)
            changes, things = draw_changes(source)
            while True:
                draw = source.choice([Draw, Likely, Likely])(source, self.LOCALS, WORDS, plain)
                writer = Write(source, 0.05)
                bare = draw.deed(source.choice(depths))
                writer.deed(("deed", "src") + bare[2:])
                try:
                    tree = read(" ".join(writer.tokens))
                except TooBig:
                    continue
                if len(writer.tokens) > 20:
                    break
            low = len([take for take in tree[2] if len(take) == 1])
            many = source.randrange(low, len(tree[2]) + 1)
            arguments = tuple(self.argument(source, things) for _ in range(many))
            yield source, world_of(changes), tree, arguments

    def argument(self, source, things):
        if source.random() < 0.7:
            return ("thing", source.randrange(things))
        return source.choice([("kind", source.choice(KINDS)), ("deed", source.choice(DEEDS)),
                              draw_worth(source, things)])

    def test_drawn_sources_in_drawn_worlds(self):
        met, changed = {}, 0
        for source, world, tree, arguments in self.sources(range(1200), [1, 2, 2, 3]):
            end, _, changes = self.both(world, tree, arguments)
            key = "tired" if "tired" in (end[0], self.run_end[0]) else end[1] if end[0] == "fell" else end[0]
            met[key] = met.get(key, 0) + 1
            changed += len(changes)
        for key in ("gave", "noword", "nolocal", "nocall", "noadd", "noless", "nohome", "takes"):
            self.assertGreater(met.get(key, 0), 10, met)
        self.assertGreater(changed, 300)
        # One is tired where the other isn't now and then, but most are held against one another.
        self.assertLess(met.get("tired", 0), 60)

    def test_drawn_bounds(self):
        for source, world, tree, arguments in self.sources(range(5000, 5120), [1, 2]):
            self.bounds(world, tree, arguments, sorted({source.randrange(60) for _ in range(6)} | {0, 1, 400}))

    def test_quick_machines_that_stand_all_along(self):
        # A walk, a plain run and runs of a quick machine, one behind the other in worlds that go on.
        for source, world, tree, arguments in self.sources(range(7000, 7150), [1, 2]):
            code, places = compiled(tree)
            make_deed(world, tree, code)
            worlds = [world, world_of(world.log()), world_of(world.log())]
            plain, quick = Plain(worlds[1]), Quick(worlds[2])
            for _ in range(5):
                end, _ = walk(world, tree, arguments)
                told = plain.run("src", arguments)
                self.assertEqual(quick.run("src", arguments), told)
                if "tired" in (end[0], told[0][0]):
                    break
                self.assertEqual(placed(told[0], tree, places), end)
                self.assertEqual([one.log() for one in worlds], [world.log()] * 3)
                self.assertTrue(worlds[1] == world == worlds[2])


if __name__ == "__main__":
    unittest.main()
