"""Promises [18], [19]: the answers that a quick machine keeps, takes and drops, and how many tables it looks at."""

import random
import unittest

from plains import NONE, NOT, YES, number, thing
from quicks import QuickCase
from swiftkin.quick import Quick

X, NONE_ROW = ("get", "x"), ("push", NONE)
WORDS = ["w" + sign for sign in "abcdefghijkl"]


class Answers(QuickCase):
    """The kind low, below top, which has the words; thing 0 of low."""

    def setUp(self):
        super().setUp()
        self.asked = 0
        for n, word in enumerate(WORDS[:9]):
            self.world.put("top", word, number(n))

    def ask(self, *words, quick=None):
        """Look for these words, at places that were never visited before; tell how many tables were looked at."""
        quick = quick or self.quick
        name = "ask" + "abcdefghijkl"[self.asked]
        self.asked += 1
        rows = [row for word in words for row in (("kind", "low"), ("read", word), ("let", "x"))]
        self.deed(name, *rows, NONE_ROW)
        before = quick.looks()
        self.assertEqual(quick.run(name)[0], ("gave", NONE))
        return quick.looks() - before

    def found(self, word):
        return (self.version("low"), word, self.world.found("low", word))

    def kept(self, *words, quick=None):
        self.assertEqual((quick or self.quick).answers(), [self.found(word) for word in words])

    def test_kept(self):
        self.assertEqual(self.ask("wa"), 2)
        self.kept("wa")
        self.assertEqual(self.quick.answers(), [(self.version("low"), "wa", ("top", number(0)))])
        self.assertEqual(self.ask("wb", "wc"), 4)
        self.kept("wa", "wb", "wc")

    def test_taken(self):
        self.ask("wa", "wb", "wc")
        self.assertEqual(self.ask("wa"), 0)
        self.kept("wb", "wc", "wa")
        self.assertEqual(self.ask("wc", "wb", "wb"), 0)
        self.kept("wa", "wc", "wb")

    def test_as_many_as_it_was_made_with(self):
        for most in range(1, 9):
            self.setUp()
            quick = Quick(self.world, answers=most)
            self.ask(*WORDS[:most], quick=quick)
            self.kept(*WORDS[:most], quick=quick)
            # The first is asked again, so the second one is the one asked longest ago.
            self.assertEqual(self.ask(WORDS[0], quick=quick), 0)
            self.kept(*WORDS[1:most], WORDS[0], quick=quick)
            self.assertEqual(self.ask(WORDS[most], quick=quick), 2)
            self.kept(*(WORDS[1:most] + [WORDS[0], WORDS[most]])[1:], quick=quick)
            if most > 1:
                self.assertEqual(self.ask(WORDS[1], quick=quick), 2)
            self.assertEqual(len(quick.answers()), most)

    def test_eight_if_nothing_is_told(self):
        self.assertEqual(self.ask(*WORDS[:9]), 18)
        self.kept(*WORDS[1:9])
        self.assertEqual(self.ask("wa"), 2)
        self.kept(*WORDS[2:9], "wa")

    def test_drawn_orders(self):
        for seed in range(40):
            source = random.Random(seed)
            self.setUp()
            most = source.randrange(1, 9)
            quick, kept = Quick(self.world, answers=most), []
            for _ in range(8):
                for word in [source.choice(WORDS[:9]) for _ in range(source.randrange(1, 8))]:
                    there = word in kept
                    self.assertEqual(self.ask_again(quick, word), 0 if there else 2)
                    kept = ([other for other in kept if other != word] + [word])[-most:]
                    self.kept(*kept, quick=quick)

    def ask_again(self, quick, word):
        """Ask by a drop, whose look has no place, so that it is answered or looks, each time."""
        if ("deed", "d" + word) not in [change[:2] for change in self.world.log()]:
            self.deed("d" + word, X, ("drop", word), X, takes=("x",))
        before = quick.looks()
        self.assertEqual(quick.run("d" + word, (thing(0),))[0][:2], ("fell", "noword"))
        self.assertEqual(quick.visits(), [])
        return quick.looks() - before

    def test_what_is_not_found_is_kept_too(self):
        self.deed("size", X, ("size",), takes=("x",))
        self.deed("true", X, ("unless", 2), X, takes=("x",))
        self.go("true", thing(0))
        version = self.version("low")
        self.assertEqual(self.quick.answers(), [(version, "truth", None), (version, "size", None)])
        self.assertEqual(self.quick.looks(), 4)
        self.go("size", thing(0))
        self.assertEqual(self.quick.looks(), 4)

    def test_each_look_in_a_kind_asks(self):
        self.deed("miss", NONE_ROW, takes=("a", "b"))
        self.deed("read", X, ("read", "word"), takes=("x",))
        self.deed("write", X, X, ("write", "word"), X, takes=("x",))
        self.deed("drop", X, ("drop", "word"), X, takes=("x",))
        self.deed("call", ("kind", "low"), ("call", 0))
        self.deed("add", X, X, ("add",), takes=("x",))
        self.deed("less", X, NONE_ROW, ("less",), takes=("x",))
        self.deed("same", NONE_ROW, X, ("same",), takes=("x",))
        self.world.put("low", "missing", ("deed", "miss"))
        version = self.version("low")
        for deed, words in (("read", ["word", "missing"]), ("write", ["word"]), ("drop", ["word"]), ("call", ["begin"]),
                            ("add", ["add"]), ("less", ["less"]), ("same", ["same"])):
            quick = Quick(self.world)
            quick.run(deed, () if deed == "call" else (thing(0),))
            self.assertEqual([answer[:2] for answer in quick.answers()], [(version, word) for word in words], deed)
        # The write has laid it, and the drop has lifted it.
        self.assertEqual(self.world.own(0), [])
        self.deed("all", X, ("read", "word"), ("let", "y"), ("kind", "low"), ("read", "missing"), takes=("x",))
        quick = Quick(self.world)
        # The kind low has the word missing; word is in no kind and not in thing 0.
        self.assertEqual(quick.run("all", (thing(0),))[0], ("gave", ("deed", "miss")))
        self.assertEqual(quick.looks(), 2 + 1 + 1)
        self.assertEqual([answer[1] for answer in quick.answers()], ["word", "missing"])

    def test_an_answer_of_another_place_serves(self):
        self.world.put("top", "word", NONE)
        self.deed("read", X, ("read", "word"), takes=("x",))
        self.deed("write", X, X, ("write", "word"), X, takes=("x",))
        self.deed("drop", X, ("drop", "word"), X, takes=("x",))
        self.go("read", ("kind", "low"))
        self.assertEqual(self.quick.looks(), 2)
        # The own table is looked at all the same.
        self.go("read", thing(0))
        self.assertEqual(self.quick.looks(), 3)
        self.go("write", thing(0))
        self.assertEqual(self.quick.looks(), 4)
        self.go("drop", thing(0))
        self.assertEqual(self.quick.looks(), 4)
        self.assertEqual(self.quick.answers(), [(self.version("low"), "word", ("top", NONE))])

    def test_none_serves_another_kind_or_version(self):
        self.world.put("top", "word", NONE)
        self.deed("read", X, ("read", "word"), takes=("x",))
        old = self.version("low")
        self.go("read", ("kind", "low"))
        self.go("read", ("kind", "top"))
        self.assertEqual(self.quick.looks(), 3)
        self.world.put("top", "word", YES)
        self.assertEqual(self.go("read", ("kind", "low")), ("gave", YES))
        self.assertEqual(self.quick.looks(), 5)
        self.assertEqual([answer[0] for answer in self.quick.answers()], [old, old - 1, self.version("low")])
        self.assertEqual([answer[2] for answer in self.quick.answers()], [("top", NONE), ("top", NONE), ("top", YES)])

    def test_above_asks_no_answer(self):
        self.deed("act", X, ("above", "word"), takes=("x",))
        self.deed("go", X, ("call", 0), takes=("x",))
        self.world.kind("mid", elders=("top",))
        self.world.turn("low", elders=("mid",))
        self.world.put("low", "word", NOT)
        self.world.put("top", "word", NONE)
        self.ask("word")
        self.kept("word")
        looks = self.quick.looks()
        for many, home in ((2, "low"), (1, "mid")):
            for _ in range(3):
                quick = Quick(self.world)
                self.assertEqual(self.go("go", ("bound", "act", home, thing(0)), quick=quick), ("gave", NONE))
                self.assertEqual((quick.looks(), quick.answers()), (many, []))
        # Nothing is found behind top, whose tables behind it are none.
        self.assertEqual(self.go("go", ("bound", "act", "top", thing(0)))[1], "noword")
        self.assertEqual(self.quick.looks(), looks)
        self.world.out("top", "word")
        self.assertEqual(self.go("go", ("bound", "act", "low", thing(0)))[1], "noword")
        self.assertEqual(self.quick.looks(), looks + 2)

    def test_a_hit_touches_none_and_looks_at_nothing(self):
        self.world.put("top", "word", NONE)
        self.deed("read", X, ("read", "word"), takes=("x",))
        self.go("read", ("kind", "low"))
        self.go("read", ("kind", "low"))
        self.ask("wa", "wb")
        self.kept("word", "wa", "wb")
        looks = self.quick.looks()
        for _ in range(3):
            self.go("read", ("kind", "low"))
        self.kept("word", "wa", "wb")
        self.assertEqual((self.quick.looks(), self.quick.hits()), (looks, 3))
        # It doesn't need its answer, either.
        self.ask(*WORDS[:8])
        self.kept(*WORDS[:8])
        looks = self.quick.looks()
        self.go("read", ("kind", "low"))
        self.kept(*WORDS[:8])
        self.assertEqual((self.quick.looks(), self.quick.hits()), (looks, 4))

    def test_a_miss_and_a_rest_ask(self):
        self.world.put("top", "word", NONE)
        self.deed("read", X, ("read", "word"), takes=("x",))
        for kind in ("low", "low", "top", "other", "low"):
            self.go("read", ("kind", kind))
        self.assertEqual(self.quick.state("read", 1, 0), ("rest", 3))
        versions = [self.version(kind) for kind in ("top", "other", "low")]
        self.assertEqual([answer[0] for answer in self.quick.answers()], versions)
        self.assertEqual((self.quick.looks(), self.quick.hits(), self.quick.misses()), (2 + 1 + 1, 0, 2))


class Tables(QuickCase):
    """How many tables a look looks at, as long as nothing is remembered: as a plain machine, [18]."""

    def test_up_to_the_one_that_has_it(self):
        world = self.world
        names = ["top", "low"]
        for name in ("ka", "kb", "kc"):
            world.kind(name, elders=(names[-1],))
            names.append(name)
        self.deed("read", X, ("read", "word"), takes=("x",))
        line = names[::-1]
        for at, kind in enumerate(line):
            world.put(kind, "word", NONE)
            quick = Quick(world)
            quick.run("read", (("kind", line[0]),))
            self.assertEqual(quick.looks(), at + 1)
            world.out(kind, "word")
        quick = Quick(world)
        quick.run("read", (("kind", line[0]),))
        self.assertEqual(quick.looks(), 5)


class Calm(QuickCase):
    def setUp(self):
        super().setUp()
        self.world.put("top", "word", NONE)
        self.deed("read", X, ("read", "word"), takes=("x",))
        self.deed("calm", ("calm",), NONE_ROW)

    def test_between(self):
        for many in range(5):
            for _ in range(many):
                self.go("read", ("kind", "low"))
            counts = self.counts()
            self.assertEqual(len(self.quick.answers()), int(many > 0))
            self.go("calm")
            self.assertEqual((self.quick.answers(), self.quick.papers(), self.counts()), ([], [], counts))
            looks = self.quick.looks()
            self.go("read", ("kind", "low"))
            self.assertEqual(self.quick.looks(), looks + 2)
            self.go("calm")

    def test_within_a_run(self):
        self.deed("do", X, ("read", "word"), ("let", "y"), ("calm",), X, ("read", "word"), ("let", "y"), X,
                  ("read", "word"),
                  takes=("x",))
        guard = ("kind", self.version("low"))
        for _ in range(3):
            before = self.counts()
            self.go("do", ("kind", "low"))
            # Looked at ahead of the calm, unless the answer of the run before was kept; then behind it.
            self.assertEqual(self.quick.looks() - before[0], 4 if before[0] == 0 else 2)
            self.assertEqual(self.quick.answers(), [(guard[1], "word", ("top", NONE))])
            self.assertEqual([self.quick.state("do", at, 0) for at in (1, 5, 8)],
                             [("cold", None, 0), ("cold", guard, 1), ("cold", guard, 1)])
            self.assertEqual(self.quick.visits(), [("do", at, 0, guard, False) for at in (1, 5, 8)])

    def test_in_a_call_within(self):
        # What the outer call remembers goes, too; and what comes behind the calm in the run is kept.
        self.deed("do", X, ("read", "word"), ("let", "y"), ("deed", "calm"), ("call", 0), ("let", "y"), X,
                  ("read", "word"),
                  takes=("x",))
        guard = ("kind", self.version("low"))
        for _ in range(3):
            self.go("read", ("kind", "low"))
            self.go("read", ("kind", "low"))
            self.go("do", ("kind", "low"))
            self.assertEqual(self.quick.state("read", 1, 0), ("cold", None, 0))
            self.assertEqual(self.quick.state("do", 1, 0), ("cold", None, 0))
            self.assertEqual(self.quick.state("do", 7, 0), ("cold", guard, 1))
            self.assertEqual(self.quick.papers(), [])

    def test_a_calm_that_is_not_reached(self):
        self.deed("do", X, ("read", "zz"), ("let", "x"), ("calm",), NONE_ROW, takes=("x",))
        self.go("read", ("kind", "low"))
        self.assertEqual(self.go("do", ("kind", "low"))[1], "noword")
        self.assertEqual(self.go("do", ("kind", "low"), most=2)[0], "fell")
        self.assertEqual(len(self.quick.answers()), 2)
        self.assertEqual(self.go("calm", most=0), ("tired", (("calm", 0),)))
        self.assertEqual(len(self.quick.answers()), 2)
        self.assertEqual(self.go("calm", most=1), ("tired", (("calm", 1),)))
        self.assertEqual(self.quick.answers(), [])

    def test_one_calms_itself_alone(self):
        other = Quick(self.world)
        self.go("read", ("kind", "low"), quick=other)
        self.go("read", ("kind", "low"), quick=other)
        before = self.all_told(other)
        self.go("read", ("kind", "low"))
        self.go("calm")
        self.assertEqual(self.all_told(other), before)
        self.assertEqual(self.quick.answers(), [])


if __name__ == "__main__":
    unittest.main()
