"""Promises [2], [18], [20], [21]: the visits of a run, one by one, and what is settled where it falls or ends."""

import unittest

from drawn import NOT_NAMES, NOT_WORTHS
from plains import NONE, NOT, YES, number, push, text, thing
from quicks import QuickCase
from swiftkin.errors import KinError, NoDeed, NoSteps, NoWorth
from swiftkin.quick import Quick
from worlds import snapshot

X, Y = ("get", "x"), ("get", "y")


class Visits(QuickCase):
    """Kinds top, low below it, and other; things 0 of low, 1 of other, 2 of top."""

    def setUp(self):
        super().setUp()
        self.world.thing("other")
        self.world.thing("top")

    def visited(self, *visits):
        """The last run had these visits: their kinds stand for the versions of these."""
        self.assertEqual(self.quick.visits(), [
            (deed, row, number, guard and (guard[0], self.version(guard[1])) + guard[2:], hit)
            for deed, row, number, guard, hit in visits])

    def test_none(self):
        self.assertEqual(self.quick.visits(), [])
        self.go("me", NONE)
        self.visited()
        # Numbers, texts and the like are looked for nowhere, nor are writes of kinds; the look of a drop has no place.
        self.world.put("low", "own", NONE)
        self.deed("do", push(number(1)), push(number(2)), ("add",), ("let", "y"), push(text("a")), ("size",),
                  ("let", "y"),
                  push(YES), ("unless", 10), ("calm",), ("kind", "low"), X, ("write", "word"), ("kind", "low"),
                  ("drop", "own"),
                  push(text("a")), push(text("b")), ("less",), ("let", "y"), ("kind", "low"), X, ("same",),
                  takes=("x",))
        self.go("do", NONE)
        self.visited()
        self.world.lay(0, "own", NONE)
        self.deed("drop", X, ("drop", "own"), X, takes=("x",))
        self.go("drop", thing(0))
        self.visited()
        self.assertEqual(self.quick.looks(), 2)

    def test_rows_that_fall_without_a_look(self):
        self.deed("read", X, ("read", "word"), takes=("x",))
        self.deed("write", X, X, ("write", "word"), X, takes=("x",))
        self.deed("drop", X, ("drop", "word"), X, takes=("x",))
        self.deed("above", X, ("above", "word"), takes=("x",))
        self.deed("call", X, ("call", 0), takes=("x",))
        self.deed("size", X, ("size",), takes=("x",))
        self.deed("add", X, X, ("add",), takes=("x",))
        self.deed("go", X, ("call", 0), takes=("x",))
        some = {"noword": ["read", "write", "drop"], "nohome": ["above"], "nocall": ["call"], "nosize": ["size"],
                "noadd": ["add"]}
        for fall, deeds in some.items():
            for deed in deeds:
                self.assertEqual(self.go(deed, ("truth", True))[1], fall)
                self.visited()
        # Homes that are none: no home, one that isn't in the line, and what is no thing.
        for worth in (("bound", "above", "low", ("kind", "low")), ("bound", "above", "other", thing(0)),
                      ("deed", "above")):
            self.go("go", worth)
            self.visited()
        self.assertEqual(self.go("above", thing(0))[1], "nohome")
        self.visited()
        self.assertEqual(self.quick.looks(), 0)

    def test_a_read_that_misses(self):
        self.deed("read", X, ("read", "word"), takes=("x",))
        self.go("read", thing(0))
        self.visited(("read", 1, 0, None, False), ("read", 1, 1, ("word", "low"), False))
        self.go("read", ("kind", "low"))
        self.visited(("read", 1, 0, None, False))
        self.go("read", thing(0))
        self.visited(("read", 1, 0, None, False), ("read", 1, 1, ("word", "low"), False))
        self.go("read", thing(0))
        self.visited(("read", 1, 0, None, False), ("read", 1, 1, ("word", "low"), True))
        self.go("read", NONE)
        self.visited()

    def test_sides_from_the_left(self):
        self.deed("add", X, Y, ("add",), takes=("x", "y"))
        for x, y, *visits in (
            (thing(0), number(1), (0, "low")), (number(1), thing(0), (1, "low")), (thing(0), thing(0), (0, "low")),
            (thing(0), thing(1), (0, "low"), (1, "other")), (thing(1), thing(0), (0, "other"), (1, "low")),
            (thing(0), thing(2), (0, "low"), (1, "top")), (("kind", "low"), thing(0), (1, "low")),
            # The right side's kind is below the left one's: its word is looked for ahead of all.
            (thing(2), thing(0), (1, "low"), (0, "top")), (NONE, NOT),
        ):
            self.quick = Quick(self.world)
            self.assertEqual(self.go("add", x, y)[1], "noadd")
            self.visited(*[("add", 2, n, ("word", kind), False) for n, kind in visits])

    def test_sides_that_tell_nothing_and_turned_ones(self):
        self.deed("not", push(NOT), takes=("a", "b"))
        self.deed("two", push(number(2)), takes=("a", "b"))
        for row, left, right in (("add", "add", "radd"), ("less", "less", "more"), ("same", "same", "same")):
            self.deed(row, X, Y, (row,), takes=("x", "y"))
            told = ("truth", False) if row == "same" else None
            self.world.put("top", right, ("deed", "not"))
            # Found at top for both, so the left one goes first.
            for n in (2, 1, 0):
                self.go(row, thing(2), thing(0))
                self.visited(*[(row, 2, at, ("word", kind), n == 0) for at,
                               kind in ((1, "low"), (2, "top"), (0, "top"))])
            self.world.put("low", right, ("deed", "not"))
            end = self.go(row, thing(2), thing(0))
            self.assertEqual(end if end[0] == "fell" else end[1], told or ("fell", "no" + row, ((row, 2),)))
            # top's version is as it was, low's is another one.
            self.visited((row, 2, 1, ("word", "low"), False), (row, 2, 2, ("word", "top"), True),
                         (row, 2, 0, ("word", "top"), True))
            self.world.put("low", right, ("deed", "two"))
            self.assertEqual(self.go(row, thing(2), thing(0)), ("gave", number(2)))
            self.visited((row, 2, 1, ("word", "low"), False), (row, 2, 2, ("word", "top"), True))
            self.world.out("low", right)
            self.world.out("top", right)

    def test_truth_and_size(self):
        self.deed("zero", push(number(0)), takes=("a",))
        self.deed("do", X, ("unless", 2), X, ("size",), takes=("x",))
        self.go("do", thing(0))
        self.visited(("do", 1, 0, ("word", "low"), False), ("do", 1, 1, ("word", "low"), False),
                     ("do", 3, 0, ("word", "low"), False))
        self.world.put("low", "truth", ("deed", "zero"))
        self.assertEqual(self.go("do", thing(0))[1], "badtruth")
        self.visited(("do", 1, 0, ("word", "low"), False))
        self.world.out("low", "truth")
        self.world.put("top", "size", ("deed", "zero"))
        for n in range(3):
            self.go("do", thing(0))
            self.visited(*[("do", row, number, ("word", "low"), n > 1) for row, number in ((1, 0), (1, 1), (3, 0))])

    def test_of_calls_within(self):
        # In the order in which they are made, an outer row's ahead of those of the call that it makes.
        self.deed("inner", X, ("read", "own"), ("let", "y"), X, ("read", "own"), takes=("x",))
        self.deed("outer", X, ("read", "word"), ("let", "y"), X, ("read", "word"), takes=("x",))
        self.world.put("low", "word", ("gate", "inner", None))
        self.world.lay(0, "own", YES)
        shaped = ("thing", "low", ("own",))

        def inner(hit):
            return [("inner", 1, 0, shaped, hit), ("inner", 4, 0, shaped, hit)]
        self.assertEqual(self.go("outer", thing(0)), ("gave", YES))
        self.visited(("outer", 1, 0, shaped, False), *inner(False), ("outer", 4, 0, shaped, False), *inner(False))
        self.go("outer", thing(0))
        self.visited(("outer", 1, 0, shaped, False), *inner(True), ("outer", 4, 0, shaped, False), *inner(True))
        self.go("outer", thing(0))
        self.visited(("outer", 1, 0, shaped, True), *inner(True), ("outer", 4, 0, shaped, True), *inner(True))
        self.assertEqual(self.quick.hits(), 10)

    def test_calls_of_kinds(self):
        self.deed("call", ("kind", "low"), ("call", 0))
        self.deed("init", X, X, ("write", "own"), X, takes=("x",))
        self.go("call")
        self.visited(("call", 1, 0, ("word", "low"), False))
        self.world.put("low", "begin", ("deed", "init"))
        self.go("call")
        self.visited(("call", 1, 0, ("word", "low"), False), ("init", 2, 0, ("thing", "low", ()), False))
        self.go("call")
        self.go("call")
        self.visited(("call", 1, 0, ("word", "low"), True), ("init", 2, 0, ("thing", "low", ()), True))


class Settled(QuickCase):
    """A visit settles its place first, and only then does what it must."""

    def test_before_a_gate_is_called(self):
        # Each thing of a chain has the next one as its own word; the last one has none.
        for _ in range(4):
            self.world.thing("low")
        for n in range(4):
            self.world.lay(n, "next", thing(n + 1))
        self.world.lay(4, "next", NONE)
        self.deed("inner", X, ("read", "next"), ("read", "word"), takes=("x",))
        self.deed("do", X, ("read", "word"), takes=("x",))
        self.world.put("low", "word", ("gate", "inner", None))
        place, guard = ("inner", 2, 0), ("thing", self.version("low"), ("next",))
        self.assertEqual(self.go("do", thing(0)), ("fell", "noword", (("do", 1),) + (("inner", 2),) * 5))
        self.assertEqual([visit for visit in self.quick.visits() if visit[:3] == place],
                         [place + (guard, False)] * 2 + [place + (guard, True)] * 2)
        self.assertEqual(self.quick.state(*place), ("special", guard, 0))

    def test_before_a_deed_comes_to_the_same_place(self):
        # What low has for missing reads the word of its own word at the same place.
        self.world.thing("other")
        self.world.put("other", "word", YES)
        self.world.lay(0, "own", thing(1))
        self.deed("do", X, ("read", "word"), takes=("x",))
        self.deed("more", ("deed", "do"), ("get", "a"), ("read", "own"), ("call", 1), takes=("a", "b"))
        self.world.put("low", "missing", ("deed", "more"))
        guard = ("thing", self.version("other"), ())
        for _ in range(3):
            self.assertEqual(self.go("do", thing(0)), ("gave", YES))
            self.assertEqual([visit for visit in self.quick.visits() if visit[0] == "do"], [
                ("do", 1, 0, None, False), ("do", 1, 1, ("word", self.version("low")), self.quick.hits() > 0),
                ("do", 1, 0, guard, False)])
            self.assertEqual(self.quick.state("do", 1, 0), ("cold", guard, 1))

    def test_before_the_call_is_too_deep(self):
        self.deed("more", ("kind", "low"), ("call", 0), takes=("x",))
        self.world.put("low", "begin", ("deed", "more"))
        guard = ("word", self.version("low"))
        self.assertEqual(self.go("more", NONE), ("fell", "deep", (("more", 1),) * 12))
        self.assertEqual(self.quick.visits(), [("more", 1, 0, guard, n > 1) for n in range(12)])
        self.assertEqual((self.quick.hits(), self.quick.looks()), (10, 1))

    def test_hits_may_fall(self):
        world = self.world
        for n in range(2):
            world.thing("low")
            for sign in "abcdefgh":
                world.lay(n, "w" + sign, NONE)
        self.deed("write", X, X, ("write", "word"), X, takes=("x",))
        self.deed("call", ("kind", "low"), X, ("call", 1), takes=("x",))
        self.deed("read", X, ("read", "word"), takes=("x",))
        for n in range(4):
            self.assertEqual(self.go("write", thing(n % 2)), ("fell", "full", (("write", 2),)))
            self.assertEqual(self.go("call", NONE), ("fell", "takes", (("call", 2),)))
            self.assertEqual([visit[4] for visit in self.quick.visits()], [n > 1])
        self.world.put("low", "missing", ("deed", "read"))
        for n in range(4):
            self.assertEqual(self.go("read", thing(0)), ("fell", "takes", (("read", 1),)))
            self.assertEqual([visit[4] for visit in self.quick.visits()], [False, n > 1])

    def test_what_falls_after_it_was_looked_for_is_settled(self):
        self.deed("do", X, ("read", "word"), ("let", "y"), ("get", "zz"), takes=("x",))
        self.deed("wide", X, ("read", "word"), ("let", "y"), ("get", "zz"), ("give",), takes=("x",),
                  guards=((0, 4, 4, 0),))
        self.world.put("low", "word", NONE)
        guard = ("kind", self.version("low"))
        for n in range(3):
            self.assertEqual(self.go("do", ("kind", "low")), ("fell", "nolocal", (("do", 3),)))
            self.assertEqual(self.go("wide", ("kind", "low")), ("gave", text("nolocal")))
            self.assertEqual(self.quick.visits(), [("wide", 1, 0, guard, n > 1)])
        self.assertEqual(self.quick.state("do", 1, 0), ("special", guard, 0))
        self.assertEqual(self.quick.state("wide", 1, 0), ("special", guard, 0))


class LastRun(QuickCase):
    """The visits told are those of the last run."""

    def setUp(self):
        super().setUp()
        self.world.put("low", "word", NONE)
        self.deed("do", X, ("read", "word"), ("let", "y"), X, ("read", "word"), takes=("x",))
        self.guard = ("kind", self.version("low"))

    def test_of_a_run_that_falls_or_is_tired_amid_its_rows(self):
        visits = [("do", 1, 0, self.guard), ("do", 4, 0, self.guard)]
        for most, many in ((0, 0), (1, 0), (2, 1), (3, 1), (4, 1), (5, 2), (6, 2), (400, 2)):
            quick = Quick(self.world)
            for n in range(3):
                self.go("do", ("kind", "low"), most=most, quick=quick)
                self.assertEqual(quick.visits(), [visit + (n > 1,) for visit in visits[:many]])
        self.go("do", ("kind", "low"))
        self.go("do", ("kind", "other"))
        self.assertEqual(self.quick.visits(), [("do", 1, 0, None, False)])

    def test_of_a_run_that_falls_by_takes(self):
        self.go("do", ("kind", "low"))
        self.assertEqual(self.go("do"), ("fell", "takes", ()))
        self.assertEqual(self.quick.visits(), [])

    def test_a_refused_run_changes_nothing(self):
        self.go("do", ("kind", "low"))
        self.go("do", ("kind", "low"))
        before, world = self.all_told(), snapshot(self.world)
        self.assertEqual(len(self.quick.visits()), 2)
        some = [(NoDeed, (name,), {}) for name in NOT_NAMES + ["zz", "low"]]
        some += [(NoDeed, ("zz", [], ), {"most": -1}), (NoDeed, ("zz", (NONE,) * 9), {"most": None})]
        some += [(NoWorth, ("do", (worth,)), {"most": most}) for worth in NOT_WORTHS + [thing(9), ("kind", "zz")]
                 for most in (400, -1)]
        some += [(NoWorth, ("do", worths), {"most": 401}) for worths in ([NONE], None, "x", (NONE,) * 9, 0)]
        some += [(NoSteps, ("do", (("kind", "low"),)), {"most": most})
                 for most in (-1, 401, None, True, False, "5", [5], (), 10 ** 20)]
        some += [(NoSteps, ("do",), {"most": -1})]
        for refusal, parts, more in some:
            with self.assertRaises(KinError) as caught:
                self.quick.run(*parts, **more)
            self.assertIs(type(caught.exception), refusal, parts)
            self.assertEqual(self.all_told(), before)
            self.assertEqual(snapshot(self.world), world)

    def test_machines_know_nothing_of_one_another(self):
        other = Quick(self.world, answers=2)
        new = self.all_told(other)
        for n in range(5):
            self.go("do", ("kind", "low"))
        self.assertEqual(self.all_told(other), new)
        self.assertEqual(self.quick.hits(), 6)
        before = self.all_told()
        self.go("do", ("kind", "low"), quick=other)
        self.assertEqual(self.all_told(), before)
        self.assertEqual([visit[4] for visit in other.visits()], [False, False])
        self.assertEqual((other.looks(), other.hits()), (1, 0))


if __name__ == "__main__":
    unittest.main()
