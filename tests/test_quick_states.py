"""Promise [20]: the table of states row by row, for each look that a row makes, and what each guard lets by."""

import unittest

from plains import NONE, YES, number, text, thing
from quicks import COLD
from scenes import SCENES, SceneCase, X
from swiftkin import quick as module
from swiftkin.quick import Quick


class Interface(SceneCase):
    def test_methods_of_the_class_itself(self):
        for name in ("run", "looks", "hits", "misses", "state", "answers", "visits", "papers", "take"):
            self.assertIn(name, vars(Quick))
        self.assertEqual(Quick.__module__, module.__name__)

    def test_what_a_new_one_tells(self):
        for quick in (Quick(self.world), Quick(self.world, answers=1)):
            self.assertEqual((quick.looks(), quick.hits(), quick.misses()), (0, 0, 0))
            self.assertEqual((quick.answers(), quick.visits(), quick.papers()), ([], [], []))
            self.assertEqual(quick.state("me", 0, 0), COLD)

    def test_places_that_are_none(self):
        self.stage(SCENES[0])
        self.make_special()
        for place in (("do", 0, 0), ("do", 1, 1), ("do", 1, 2), ("do", 1, 3), ("do", 1, -1), ("do", 99, 0),
                      ("do", -1, 0),
                      ("zz", 1, 0), ("", 0, 0), ("Do", 1, 0), ("do", 10 ** 20, 10 ** 20), ("low", 1, 0)):
            self.assertEqual(self.quick.state(*place), COLD)
        self.assertEqual(self.quick.state("do", 1, 0)[0], "special")

    def test_sorts_of_what_is_told(self):
        self.stage(SCENES[1])
        self.make_special()
        quick = self.quick
        for told in (quick.answers(), quick.visits(), quick.papers()):
            self.assertIs(type(told), list)
            self.assertEqual({type(part) for part in told}, {tuple})
        self.assertEqual({type(told) for told in (quick.looks(), quick.hits(), quick.misses())}, {int})
        self.assertIs(type(quick.state("do", 1, 0)), tuple)

    def test_told_lists_are_the_askers(self):
        self.stage(SCENES[1])
        self.make_special()
        before = self.all_told()
        for ask in (self.quick.answers, self.quick.visits, self.quick.papers):
            self.assertIsNot(ask(), ask())
            ask().append("else")
            ask().clear()
        self.assertEqual(self.all_told(), before)


class Table(SceneCase):
    def each(self, with_none=False):
        """Stage each scene, or each in which something comes without a guard."""
        for scene in SCENES:
            if scene.none or not with_none:
                self.stage(scene)
                yield scene

    def test_each_row_that_looks_has_its_scenes(self):
        met = {(scene.rows[scene.at][0], scene.number) for scene in SCENES}
        rows = {"read": 2, "write": 1, "above": 1, "call": 1, "add": 3, "less": 3, "same": 3, "size": 1, "unless": 2}
        self.assertEqual(met, {(row, number) for row, many in rows.items() for number in range(many)})

    def test_all_are_cold_at_first(self):
        for _ in self.each():
            self.assertEqual(self.quick.state(*self.place()), COLD)

    def test_cold_with_this_guard_is_special(self):
        for _ in self.each():
            self.make_special()

    def test_cold_with_another_guard(self):
        for scene in self.each():
            guard, other = self.guard(scene.guard), self.guard(scene.other_guard)
            self.comes("by", ("cold", guard, 1))
            self.comes("other", ("cold", other, 1))
            self.comes("by", ("cold", guard, 1))
            self.comes("other", ("cold", other, 1))
            self.comes("other", ("special", other, 0))

    def test_cold_with_none(self):
        for scene in self.each(True):
            guard = self.guard(scene.guard)
            self.comes("none", COLD)
            self.comes("by", ("cold", guard, 1))
            self.comes("none", COLD)
            self.comes("none", COLD)
            self.comes("by", ("cold", guard, 1))
            self.comes("by", ("special", guard, 0))

    def test_hits_leave_it_special(self):
        for _ in self.each():
            guard = self.make_special()
            for _ in range(7):
                self.comes("by", ("special", guard, 0))

    def test_two_misses_give_it_a_rest(self):
        for scene in self.each():
            guard, other = self.make_special(), self.guard(scene.other_guard)
            self.comes("other", ("special", guard, 1))
            self.comes("by", ("special", guard, 1))
            self.comes("by", ("special", guard, 1))
            self.comes("other", ("rest", 4))
            self.comes("by", ("rest", 3))
            self.comes("by", ("rest", 2))
            self.comes("other", ("rest", 1))
            self.comes("by", COLD)
            self.comes("other", ("cold", other, 1))
            self.comes("other", ("special", other, 0))

    def test_misses_without_a_guard(self):
        for _ in self.each(True):
            guard = self.make_special()
            self.comes("none", ("special", guard, 1))
            self.comes("by", ("special", guard, 1))
            self.comes("none", ("rest", 4))
            for state in (("rest", 3), ("rest", 2), ("rest", 1), COLD, COLD):
                self.comes("none", state)

    def test_a_version_that_is_over_is_missed(self):
        for scene in self.each():
            guard = self.make_special()
            self.world.put(scene.guard[1], "new", NONE)
            now = self.guard(scene.guard)
            self.assertNotEqual(now, guard)
            self.comes("by", ("special", guard, 1))
            self.comes("by", ("rest", 4))
            for state in (("rest", 3), ("rest", 2), ("rest", 1), COLD, ("cold", now, 1), ("special", now, 0)):
                self.comes("by", state)
            self.comes("by", ("special", now, 0))

    def test_a_version_that_is_over_while_it_is_cold(self):
        for scene in self.each():
            self.comes("by", ("cold", self.guard(scene.guard), 1))
            self.world.put(scene.guard[1], "new", NONE)
            now = self.guard(scene.guard)
            self.comes("by", ("cold", now, 1))
            self.comes("by", ("special", now, 0))

    def test_calm(self):
        for scene in self.each():
            self.deed("calm", ("calm",), ("get", "x"), takes=("x",))
            for many in range(7):
                for n in range(many):
                    self.go(scene.run, *(scene.other if n in (2, 3) else scene.by))
                counts = self.counts()
                self.go("calm", NONE)
                self.assertEqual(set(self.states().values()), {COLD})
                self.assertEqual((self.quick.answers(), self.quick.papers(), self.quick.visits()), ([], [], []))
                self.assertEqual(self.counts(), counts)
            self.make_special()


class LetBy(SceneCase):
    """What each sort of guard lets by, and what not."""

    def judged(self, name, *some):
        """Make a scene's place special anew for each of some: arguments, whether they are let by, changes ahead."""
        scene = [scene for scene in SCENES if scene.name == name][0]
        for arguments, let, *changes in some:
            self.stage(scene)
            guard = self.make_special()
            for change in changes:
                change(self.world)
            looks = self.quick.looks()
            self.go(scene.run, *arguments)
            state = ("special", guard, 0 if let else 1)
            self.assertEqual(self.quick.state(*self.place()), state, (name, arguments))
            visits = [visit for visit in self.quick.visits() if visit[:3] == self.place()]
            self.assertEqual([visit[4] for visit in visits], [let], (name, arguments))
            if let:
                self.assertEqual(visits[0][3], guard)
                if len(self.quick.visits()) == 1:
                    self.assertEqual(self.quick.looks(), looks, (name, arguments))

    def test_a_thing_of_any_shape(self):
        shapes = (lambda world: world.lay(0, "word", NONE), lambda world: world.lay(2, "own", YES))
        for name in ("read a gate that writes", "write, by a gate"):
            self.judged(
                name, ((thing(0),), True), ((thing(2),), True), ((thing(4),), True), ((thing(0),), True, *shapes),
                ((thing(2),), True, *shapes), ((thing(1),), False),
                ((thing(0),), False, lambda world: world.put("low", "new", NONE)),
                ((thing(0),), False, lambda world: world.put("top", "new", NONE)),
                ((thing(0),), False, lambda world: world.put("low", "word", ("gate", "one", "two"))),
                ((thing(0),), False, lambda world: world.turn("low", elders=("mid",))),
                ((thing(0),), False, lambda world: world.turn("mid", elders=("other",))),
                ((thing(0),), True, lambda world: world.put("other", "new", NONE)),
                ((thing(0),), True, lambda world: world.kind("new", elders=("low",))),
            )
        self.judged("read a gate that writes", ((("kind", "low"),), False))

    def test_a_thing_of_this_shape(self):
        self.judged(
            "read what is found", ((thing(0),), True), ((thing(2),), True), ((thing(4),), False), ((thing(3),), False),
            ((("kind", "low"),), False), ((thing(0),), False, lambda world: world.lay(0, "own", NONE)),
            ((thing(2),), False, lambda world: world.lay(2, "word", NONE)),
            ((thing(4),), True, lambda world: world.lift(4, "own")),
            ((thing(0),), False, lambda world: world.put("mid", "new", NONE)),
        )
        for name, own in (("read an own word", ("own", "word")), ("write an own word", ("word",))):
            lay = [lambda world, word=word: world.lay(2, word, number(5)) for word in own]
            again = [lambda world: world.lift(0, own[0]), lambda world: world.lay(0, own[0], NONE)]
            self.judged(
                name, ((thing(0),), True), ((thing(2),), True, *lay), ((thing(4),), False),
                ((thing(2),), False, *lay, lambda world: world.lay(2, "more", NONE)),
                ((thing(0),), True, lambda world: world.lay(0, "word", text("else"))),
                ((thing(0),), False, lambda world: world.lift(0, own[0])),
                # Laid again it is the last: with two words that is another shape.
                ((thing(0),), len(own) == 1, *again),
                ((thing(0),), False, lambda world: world.put("top", "new", NONE)),
            )

    def test_a_shape_in_which_a_write_finds_none(self):
        self.stage(SCENES[0])
        self.deed("lay", X, X, ("write", "new"), X, takes=("x",))
        self.world.out("low", "word")
        guard = ("thing", self.version("low"), ())
        for n, state in ((0, ("cold", guard, 1)), (2, ("special", guard, 0)), (4, ("special", guard, 0))):
            self.assertEqual(self.go("lay", thing(n)), ("gave", thing(n)))
            self.assertEqual(self.world.own(n), [("new", thing(n))])
            self.assertEqual(self.quick.state("lay", 2, 0), state)
        self.assertEqual(self.quick.visits(), [("lay", 2, 0, guard, True)])
        # Now it is of another shape.
        self.go("lay", thing(0))
        self.assertEqual(self.quick.visits(), [("lay", 2, 0, ("thing", self.version("low"), ("new",)), False)])

    def test_a_kind(self):
        self.judged(
            "read a kind", ((("kind", "low"),), True), ((("kind", "mid"),), False), ((("kind", "top"),), False),
            ((thing(0),), False), ((("kind", "low"),), False, lambda world: world.out("top", "word")),
            ((("kind", "low"),), False, lambda world: world.put("low", "word", YES)),
            ((("kind", "low"),), True, lambda world: world.lay(0, "word", NONE)),
        )

    def test_a_thing_in_a_call_of_this_home(self):
        def bound(home, n):
            return (("bound", "do", home, thing(n)),)
        self.judged(
            "above", (bound("low", 0), True), (bound("low", 2), True), (bound("low", 4), True),
            (bound("mid", 0), False),
            (bound("top", 0), False), (bound("top", 3), False), (bound("mid", 5), False),
            (bound("low", 0), True, lambda world: world.lay(0, "word", NONE)),
            (bound("low", 0), False, lambda world: world.put("top", "word", YES)),
            (bound("low", 0), False, lambda world: world.put("low", "word", YES)),
        )

    def test_a_side_or_the_called_kind(self):
        for scene in SCENES:
            if scene.guard[0] == "word":
                like = {"low": thing(2), "top": thing(3)}[scene.guard[1]]
                like = (scene.by[0] if scene.by[0][0] == "kind" else like,) + scene.by[1:]
                self.judged(
                    scene.name, (scene.by, True), (like, True), (scene.other, False),
                    (scene.by, False, lambda world: world.put(scene.guard[1], "new", NONE)),
                    (scene.by, True, lambda world: world.lay(0, "size", NONE)),
                    (scene.by, True, lambda world: world.thing("low")),
                )


if __name__ == "__main__":
    unittest.main()
