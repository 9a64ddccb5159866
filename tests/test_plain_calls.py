"""Promises [12], [13], [17]: runs, their refusals and bounds, and what calls do."""

import itertools
import unittest

from drawn import NOT_NAMES, NOT_WORTHS
from plains import NO, NONE, NOT, YES, Case, Kin, giving, number, push, text, thing
from swiftkin import plain as module
from swiftkin.errors import KinError, NoDeed, NoSteps, NoWorth
from swiftkin.plain import Plain
from worlds import snapshot

ME = ("get", "it")


class Interface(Kin):
    def test_methods_of_the_class_itself(self):
        self.assertIn("run", vars(Plain))
        self.assertIn("looks", vars(Plain))
        self.assertEqual(Plain.__module__, module.__name__)

    def test_sorts_of_what_is_told(self):
        machine = Plain(self.world)
        self.assertIs(type(machine.looks()), int)
        self.assertEqual(machine.looks(), 0)
        for arguments, most in (((NONE,), 400), ((NONE,), 0), ((), 400)):
            end, steps = machine.run("me", arguments, most=most)
            self.assertEqual((type(end), type(steps)), (tuple, int))
            if end[0] != "gave":
                self.assertIs(type(end[-1]), tuple)

    def test_arguments_may_be_left_out(self):
        self.deed("none", push(NOT))
        self.assertEqual(Plain(self.world).run("none"), (("gave", NOT), 2))
        self.assertEqual(Plain(self.world).run("none", most=1), (("tired", (("none", 1),)), 1))


class Refused(Kin):
    def refused(self, refusal, *parts, **more):
        before = snapshot(self.world)
        machine = Plain(self.world)
        with self.assertRaises(KinError) as caught:
            machine.run(*parts, **more)
        self.assertIs(type(caught.exception), refusal)
        self.assertEqual((snapshot(self.world), machine.looks()), (before, 0))

    def test_no_deed(self):
        for name in NOT_NAMES + ["zz", "top", ("deed", "me"), ["me"]]:
            self.refused(NoDeed, name)
            self.refused(NoDeed, name, [NONE], most=-1)
            self.refused(NoDeed, name, ([],), most=None)

    def test_no_worths(self):
        self.world.put("low", "word", ("deed", "me"))
        for worth in NOT_WORTHS + [("thing", 1), ("kind", "zz"), ("deed", "zz"), ("gate", "me", "zz"),
                                   ("gate", "zz", None), ("bound", "zz", "low", NONE), ("bound", "me", "zz", NONE),
                                   ("bound", "me", "low", ("thing", 7))]:
            self.refused(NoWorth, "me", (worth,))
            self.refused(NoWorth, "me", (NONE, worth))
            self.refused(NoWorth, "me", (worth,), most=-1)
        for arguments in (None, True, 0, "", "me", [], [NONE], {}, number(1), ("none",)):
            self.refused(NoWorth, "me", arguments)
            self.refused(NoWorth, "me", arguments, most=500)

    def test_eight_arguments_and_nine(self):
        self.refused(NoWorth, "me", (NONE,) * 9)
        self.refused(NoWorth, "me", (NONE,) * 9, most=None)
        self.falls("takes", (), 0, "me", (NONE,) * 8)

    def test_no_steps(self):
        for most in (-1, 401, 10 ** 20, True, False, None, "", "5", [], [5], (), (5,)):
            self.refused(NoSteps, "me", (NONE,), most=most)
            # Also where the run would fall at once.
            self.refused(NoSteps, "me", (), most=most)


class Runs(Kin):
    def test_each_worth_is_handed_over(self):
        for worth in (NONE, NOT, YES, number(1), text("a"), ("kind", "low"), thing(0), ("deed", "me"),
                      ("bound", "me", "low", thing(0)), ("gate", "me", None), ("gate", "me", "me")):
            self.gives(worth, 2, "me", (worth,), looks=0, changes=[])

    def test_takes(self):
        self.falls("takes", (), 0, "me", (), looks=0, changes=[])
        self.falls("takes", (), 0, "me", (NONE, NONE))
        self.world.deed("guarded", ((ME, ("give",), ("give",)), ((0, 2, 2, 0),)), takes=("it",))
        self.falls("takes", (), 0, "guarded")
        # Nothing is begun, so it isn't tired either.
        self.assertEqual(self.run_it("me", (), 0)[0], (("fell", "takes", ()), 0))

    def test_worths_for_the_last_ones(self):
        some = ("ta", "tb", "tc", "td")
        for many, worths in itertools.product(range(5), range(5)):
            if worths > many:
                continue
            for got in range(6):
                self.setUp()
                rows = [("get", name) for name in some[:many]]
                rows = rows + [("push", text("")), ("add",)] + [("add",)] * (many - 1) if many else [push(text(""))]
                self.deed("do", *rows, takes=some[:many], worths=tuple(text("w" + str(n)) for n in range(worths)))
                arguments = tuple(text("a" + str(n)) for n in range(got))
                if many - worths <= got <= many:
                    # The left out ones have the last of the worths.
                    left = [f"w{n}" for n in range(worths)][worths - (many - got):] if many > got else []
                    gave = "".join([f"a{n}" for n in range(got)] + left)
                    self.gives(text(gave), len(rows) + 1, "do", arguments)
                else:
                    self.falls("takes", (), 0, "do", arguments)

    def test_bounds(self):
        self.deed("in", push(NONE), ("calm",))
        self.deed("do", ("calm",), ("deed", "in"), ("call", 0), ("calm",))
        trails = [(("do", 0),), (("do", 1),), (("do", 2),), (("do", 2), ("in", 0)), (("do", 2), ("in", 1)),
                  (("do", 2), ("in", 2)), (("do", 3),), (("do", 4),)]
        for most, trail in enumerate(trails):
            self.assertEqual(self.run_it("do", (), most)[0], (("tired", trail), most))
        for most in (8, 9, 399, 400):
            self.assertEqual(self.run_it("do", (), most)[0], (("gave", NONE), 8))

    def test_four_hundred_steps(self):
        # Nine times 38 and 3 rows, and two more, are 371 steps.
        self.deed("in", *[("calm",)] * 36, push(NONE))
        self.deed("some", *[("deed", "in"), ("call", 0), ("let", "no")] * 9, push(NONE))
        self.deed("do", ("deed", "some"), ("call", 0), *[("calm",)] * 25)
        self.gives(NONE, 399, "do")
        self.deed("more", ("deed", "some"), ("call", 0), *[("calm",)] * 26)
        self.gives(NONE, 400, "more")
        self.deed("most", ("deed", "some"), ("call", 0), *[("calm",)] * 27)
        self.ends(("tired", (("most", 29),)), 400, "most")
        # So is the bound that is not told.
        self.assertEqual(Plain(self.world).run("more"), (("gave", NONE), 400))
        self.assertEqual(Plain(self.world).run("most"), (("tired", (("most", 29),)), 400))

    def test_what_was_done_before_it_was_tired_stays(self):
        self.deed("do", ("kind", "low"), push(NONE), ("write", "word"), push(NONE))
        told, _, changes = self.run_it("do", (), 3)
        self.assertEqual((told, changes), ((("tired", (("do", 3),)), 3), [("put", "low", "word", NONE)]))
        told, _, changes = self.run_it("do", (), 2)
        self.assertEqual((told, changes), ((("tired", (("do", 2),)), 2), []))

    def test_an_own_row_that_falls_at_the_bound(self):
        self.deed("do", ("get", "zz"))
        self.assertEqual(self.run_it("do", (), 1)[0], (("fell", "nolocal", (("do", 0),)), 1))
        self.assertEqual(self.run_it("do", (), 0)[0], (("tired", (("do", 0),)), 0))


class OfDeeds(Kin):
    def test_a_deed(self):
        self.row_gives(number(1), ("deed", "me"), push(number(1)), ("call", 1), steps=2, looks=0)
        self.deed("none", push(YES))
        self.row_gives(YES, ("deed", "none"), ("call", 0), steps=2)

    def test_arguments_in_their_order(self):
        self.deed("join", ("get", "ta"), ("get", "tb"), ("add",), ("get", "tc"), ("add",), ("get", "td"), ("add",),
                  takes=("ta", "tb", "tc", "td"), worths=(text("y"), text("z")))
        args = [push(text(sign)) for sign in "abcd"]
        self.row_gives(text("abcd"), ("deed", "join"), *args, ("call", 4), steps=8)
        self.row_gives(text("abcz"), ("deed", "join"), *args[:3], ("call", 3), steps=8)
        self.row_gives(text("abyz"), ("deed", "join"), *args[:2], ("call", 2), steps=8)
        self.row_falls("takes", ("deed", "join"), *args[:1], ("call", 1))

    def test_what_lies_further_under_stays(self):
        self.row_gives(text("ab"), push(text("a")), ("deed", "me"), push(text("b")), ("call", 1), ("add",), steps=2)

    def test_takes(self):
        for many in (0, 2, 3, 4):
            self.row_falls("takes", ("deed", "me"), *[push(NONE)] * many, ("call", many), looks=0, changes=[])

    def test_a_bound_one(self):
        self.deed("two", ME, ("get", "that"), ("add",), takes=("it", "that"))
        it = ("bound", "two", "low", text("a"))
        more = {"takes": ("it",), "arguments": (it,)}
        self.row_gives(text("ab"), ME, push(text("b")), ("call", 1), steps=4, looks=0, **more)
        self.row_falls("takes", ME, ("call", 0), **more)
        self.row_falls("takes", ME, push(NONE), push(NONE), ("call", 2), **more)

    def test_nocall(self):
        for worth in (NONE, NOT, YES, number(1), text("me"), thing(0), ("gate", "me", None), ("gate", "me", "me")):
            for many in range(5):
                self.row_falls("nocall", ME, *[push(NONE)] * many, ("call", many), looks=0, changes=[],
                               takes=("it",), arguments=(worth,))

    def test_what_falls_within(self):
        self.deed("in", ("kind", "zz"))
        self.deed("mid", ("calm",), ("deed", "in"), ("call", 0))
        self.row_falls("nokind", ("calm",), ("deed", "mid"), ("call", 0), steps=4, within=(("mid", 2), ("in", 0)))

    def test_a_call_that_falls_by_takes_is_not_in_the_trail(self):
        self.deed("mid", ("deed", "me"), ("call", 0))
        self.row_falls("takes", ("deed", "mid"), ("call", 0), steps=2, within=(("mid", 1),))


class Deep(Case):
    def chain(self, many):
        """Deeds that call one another, so many, the last one gives."""
        self.deed("ca", push(YES))
        for one, other in zip("abcdefghijkl"[:many - 1], "bcdefghijkl"[:many - 1]):
            self.deed("c" + other, ("deed", "c" + one), ("call", 0))
        return "c" + "abcdefghijkl"[many - 1]

    def setUp(self):
        super().setUp()
        self.world.kind("low")

    def test_twelve_calls(self):
        self.gives(YES, 11 * 3 + 2, self.chain(12))

    def test_thirteen(self):
        rows = (push(number(12)), ("let", "n"), ME, push(number(-1)), ("add",), ("let", "it"), ("deed", "do"), ME,
                ("call", 1))
        self.world.deed("do", giving(*rows), takes=("it",))
        self.falls("deep", (("do", 8),) * 12, 12 * 9, "do", (number(5),))

    def test_deep_comes_ahead_of_takes(self):
        self.world.deed("do", giving(("deed", "do"), push(NONE), ("call", 1)), takes=("it",), worths=(NONE,))
        self.falls("deep", (("do", 2),) * 12, 36, "do")
        self.world.deed("many", ((ME, ("unless", 6), push(NO), ("deed", "many"), ("call", 0), ("give",),
                                  ("deed", "many"), push(NONE), push(NONE), ("call", 2), ("give",)),
                                 ()), takes=("it",), worths=(NO,))
        self.falls("takes", (("many", 9),), 6, "many")

    def test_deep_comes_ahead_of_takes_at_the_twelfth(self):
        # A count is handed on, and at the twelfth call too many are handed over.
        rows = (ME, push(number(1)), ("add",), ("let", "it"), ME, push(number(12)), ("same",), ("unless", 13),
                ("deed", "do"), ME, ME, ("call", 2), ("give",), ("deed", "do"), ME, ("call", 1), ("give",))
        self.world.deed("do", (rows, ()), takes=("it",))
        self.falls("deep", (("do", 15),) * 11 + (("do", 11),), 11 * 11 + 12, "do", (number(0),))
        rows = rows[:5] + (push(number(11)),) + rows[6:]
        rows = rows[:8] + (("deed", "less"), ME, ME, ("call", 2), ("give",), ("deed", "less")) + rows[14:]
        self.world.deed("less", (rows, ()), takes=("it",))
        self.falls("takes", (("less", 15),) * 10 + (("less", 11),), 10 * 11 + 12, "less", (number(0),))

    def test_a_gate_an_operator_missing_size_truth(self):
        for worth, word, row in ((("gate", "do", None), "go", ("read", "go")),
                                 (("deed", "do"), "missing", ("read", "go")), (("deed", "do"), "size", ("size",)),
                                 (("deed", "do"), "truth", ("unless", 2))):
            self.setUp()
            self.world.thing("low")
            self.world.deed("do", giving(ME, row, *[push(NONE)] * (row[0] == "unless")), takes=("it", "word"),
                            worths=(NONE,))
            self.world.put("low", word, worth)
            self.falls("deep", (("do", 1),) * 12, 24, "do", (thing(0),))
        self.setUp()
        self.world.thing("low")
        self.world.deed("do", giving(ME, ME, ("add",)), takes=("it", "other"), worths=(NONE,))
        self.world.put("low", "add", ("deed", "do"))
        self.falls("deep", (("do", 2),) * 12, 36, "do", (thing(0),), looks=12)
        self.setUp()
        self.world.thing("low")
        self.world.deed("do", giving(ME, ME, ("write", "go"), push(NONE)), takes=("it", "other"), worths=(NONE,))
        self.world.put("low", "go", ("gate", "do", "do"))
        self.falls("deep", (("do", 2),) * 12, 36, "do", (thing(0),), looks=12)

    def test_begin(self):
        self.world.deed("do", giving(("kind", "low"), ("call", 0)), takes=("it",), worths=(NONE,))
        self.world.put("low", "begin", ("deed", "do"))
        # Begin is looked for ahead of the fall; the twelfth makes no thing.
        self.falls("deep", (("do", 1),) * 12, 24, "do", looks=12, changes=[("thing", "low")] * 11)

    def test_a_kind_without_begin_is_no_call(self):
        self.world.kind("bare")
        rows = (ME, push(number(1)), ("add",), ("let", "it"), ME, push(number(12)), ("less",), ("unless", 12),
                ("deed", "do"), ME, ("call", 1), ("give",), ("kind", "bare"), ("call", 0), ("give",))
        self.world.deed("do", (rows, ()), takes=("it",))
        self.gives(thing(0), 12 * 8 + 11 * 4 + 3, "do", (number(0),), looks=1, changes=[("thing", "bare")])


class OfKinds(Kin):
    def test_a_thing_is_made_and_given(self):
        self.row_gives(thing(1), ("kind", "low"), ("call", 0), looks=2, changes=[("thing", "low")])
        self.row_gives(thing(1), ("kind", "other"), ("call", 0), looks=1, changes=[("thing", "other")])

    def test_begin(self):
        self.deed("start", ME, ("get", "that"), ("write", "held"), push(YES), takes=("it", "that"))
        self.world.put("top", "begin", ("deed", "start"))
        # Two tables for begin, and three for what it writes; what it gives is dropped.
        self.row_gives(thing(1), ("kind", "low"), push(number(5)), ("call", 1), steps=5, looks=5,
                       changes=[("thing", "low"), ("lay", 1, "held", number(5))])

    def test_begin_that_is_no_deed(self):
        for worth in (NONE, ("gate", "me", None), ("bound", "me", "low", NONE), ("kind", "low")):
            self.world.put("low", "begin", worth)
            self.row_gives(thing(1), ("kind", "low"), ("call", 0), looks=1, changes=[("thing", "low")])
            self.row_falls("takes", ("kind", "low"), push(NONE), ("call", 1), looks=1, changes=[])

    def test_takes_without_begin(self):
        for many in range(1, 5):
            self.row_falls("takes", ("kind", "low"), *[push(NONE)] * many, ("call", many), looks=2, changes=[])

    def test_takes_with_begin(self):
        self.deed("start", ME, takes=("it", "that", "more"), worths=(NONE,))
        self.world.put("low", "begin", ("deed", "start"))
        for many in range(5):
            rows = (("kind", "low"), *[push(NONE)] * many, ("call", many))
            if many in (1, 2):
                self.row_gives(thing(1), *rows, steps=2, looks=1, changes=[("thing", "low")])
            else:
                self.row_falls("takes", *rows, looks=1, changes=[])

    def test_a_begin_that_takes_nothing(self):
        self.deed("start", push(NONE))
        self.world.put("low", "begin", ("deed", "start"))
        self.row_falls("takes", ("kind", "low"), ("call", 0), looks=1, changes=[])

    def test_full(self):
        for _ in range(58):
            self.world.thing("low")
        self.row_gives(thing(59), ("kind", "low"), ("call", 0))
        self.world.thing("low")
        self.row_falls("full", ("kind", "low"), ("call", 0), looks=2, changes=[])
        # Full is due ahead of takes, with begin and without.
        self.row_falls("full", ("kind", "low"), push(NONE), ("call", 1), looks=2, changes=[])
        self.world.put("low", "begin", ("deed", "me"))
        self.row_falls("full", ("kind", "low"), ("call", 0), looks=1, changes=[])
        self.row_falls("full", ("kind", "low"), push(NONE), ("call", 1), looks=1, changes=[])

    def test_deep_is_due_ahead_of_full(self):
        for _ in range(58):
            self.world.thing("low")
        self.world.deed("do", giving(("kind", "low"), ("call", 0)), takes=("it",), worths=(NONE,))
        self.world.put("low", "begin", ("deed", "do"))
        self.falls("full", (("do", 1),) * 2, 4, "do")
        # With all sixty there, eleven calls within one another come to begin.
        rows = (ME, push(number(1)), ("add",), ("let", "it"), ME, push(number(12)), ("less",), ("unless", 12),
                ("deed", "go"), ME, ("call", 1), ("give",), ("kind", "low"), ("call", 0), ("give",))
        self.world.thing("low")
        self.world.deed("go", (rows, ()), takes=("it",))
        self.falls("deep", (("go", 10),) * 11 + (("go", 13),), 12 * 8 + 11 * 3 + 2, "go", (number(0),), looks=1)

    def test_begin_that_falls_leaves_the_thing(self):
        self.deed("start", ("get", "zz"), takes=("it",))
        self.world.put("low", "begin", ("deed", "start"))
        self.row_falls("nolocal", ("kind", "low"), ("call", 0), steps=1, within=(("start", 0),),
                       changes=[("thing", "low")])

    def test_things_made_within_begin(self):
        self.deed("start", ("kind", "other"), ("call", 0), ("let", "new"), ME, ("get", "new"), ("write", "held"),
                  push(NONE), takes=("it",))
        self.world.put("low", "begin", ("deed", "start"))
        self.row_gives(thing(1), ("kind", "low"), ("call", 0), steps=8,
                       changes=[("thing", "low"), ("thing", "other"), ("lay", 1, "held", thing(2))])

    def test_tired_within_begin(self):
        self.deed("start", push(NONE), takes=("it",))
        self.world.put("low", "begin", ("deed", "start"))
        self.deed("do", ("kind", "low"), ("call", 0))
        told, _, changes = self.run_it("do", (), 2)
        self.assertEqual((told, changes), ((("tired", (("do", 1), ("start", 0))), 2), [("thing", "low")]))
        told, _, changes = self.run_it("do", (), 4)
        self.assertEqual((told, changes), ((("tired", (("do", 2),)), 4), [("thing", "low")]))


class Looks(Kin):
    def test_in_all_runs(self):
        self.deed("read", ME, ("read", "word"), takes=("it",))
        self.world.put("top", "word", NONE)
        machine, other = Plain(self.world), Plain(self.world)
        for n in range(1, 4):
            machine.run("read", (thing(0),))
            self.assertEqual((machine.looks(), other.looks()), (3 * n, 0))
        machine.run("read", (("kind", "other"),))
        self.assertEqual(machine.looks(), 10)
        # What the world is asked is no machine's look.
        self.world.found("low", "word")
        self.assertEqual(machine.looks(), 10)


if __name__ == "__main__":
    unittest.main()
