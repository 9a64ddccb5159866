"""Promise [27]: the papers of a quick machine's special places, told and taken."""

import random
import unittest

from drawn_code import DEEDS, draw_changes, draw_worth
from plains import NONE, NOT, YES, number, push, text, thing
from quicks import COLD, QuickCase
from scenes import SCENES, SceneCase, X
from second_papers import right_papers, second_of
from swiftkin.errors import KinError, NoPaper
from swiftkin.papers import ended, is_special
from swiftkin.plain import Plain
from swiftkin.quick import Quick
from swiftkin.world import world_of
from worlds import snapshot


class Case(SceneCase):
    def refused(self, paper, quick=None):
        """Taking this is refused, and changes nothing."""
        quick = quick or self.quick
        before, world = self.all_told(quick), snapshot(self.world)
        with self.assertRaises(KinError, msg=paper) as caught:
            quick.take(paper)
        self.assertIs(type(caught.exception), NoPaper)
        self.assertEqual(self.all_told(quick), before)
        self.assertEqual(snapshot(self.world), world)

    def paper(self):
        """Make the scene's place special, and tell its paper."""
        guard = self.make_special()
        papers = [paper for paper in self.quick.papers() if paper[:3] == self.place()]
        self.assertEqual([paper[3] for paper in papers], [guard])
        return papers[0]


class Told(Case):
    FOUND = {
        "read a gate that writes": ("low", ("gate", "one", "two")), "read what is found": ("top", ("deed", "one")),
        "read a gate": ("top", ("gate", "one", None)), "read an own word": None, "read a kind": ("top", NONE),
        "write, by a gate": ("low", ("gate", "one", "two")), "write an own word": None, "above": ("top", NONE),
        "missing": ("top", ("deed", "two")), "missing, that is none": None, "begin": ("top", ("deed", "one")),
        "begin, that is none": None, "size": ("top", ("deed", "zero")), "truth": ("top", ("deed", "yes")),
        "size behind truth": ("top", ("deed", "zero")),
    }

    def test_of_each_scene(self):
        for scene in SCENES:
            self.stage(scene)
            self.assertEqual(self.quick.papers(), [])
            paper = self.paper()
            found = self.FOUND.get(scene.name, ("top", ("deed", "two")))
            if "turned" in scene.name:
                found = None
            self.assertEqual(paper, self.place() + (self.guard(scene.guard), found), scene.name)
            self.assertIs(is_special(self.world, paper), True)
            for told in self.quick.papers():
                self.assertIs(is_special(self.world, told), True)

    def test_of_no_other_states(self):
        for scene in SCENES:
            self.stage(scene)
            self.make_special()
            self.comes("other", ("special", self.guard(scene.guard), 1))
            self.assertIn(self.place(), [paper[:3] for paper in self.quick.papers()])
            self.comes("other", ("rest", 4))
            self.assertNotIn(self.place(), [paper[:3] for paper in self.quick.papers()])
            for _ in range(5):
                self.go(scene.run, *scene.by)
                self.assertNotIn(self.place(), [paper[:3] for paper in self.quick.papers()])

    def test_what_was_found_when_it_was_made_special(self):
        # What is found later, by a look that is missed, is not told.
        self.stage([scene for scene in SCENES if scene.name == "read a kind"][0])
        paper = self.paper()
        self.world.put("low", "word", YES)
        self.comes("by", ("special", paper[3], 1))
        self.assertEqual(self.quick.papers(), [paper])
        self.assertIs(is_special(self.world, paper), False)
        self.assertEqual(ended(self.world, paper[3][1]), len(self.world.log()) - 1)

    def test_sorted_by_place(self):
        world = self.world
        world.put("low", "word", NONE)
        world.thing("top")
        read = [("kind", "low"), ("read", "word"), ("let", "y")]
        for name in ("de", "b", "c", "a", "da"):
            self.deed(name, *read * 4, push(NONE))
        self.deed("d", ("get", "x"), ("get", "y"), ("same",), takes=("x", "y"))
        for name in ("de", "b", "c", "a", "da", "da", "a", "c", "b", "de"):
            self.go(name)
        world.deed("not", ((push(NOT), ("give",)), ()), takes=("a", "b"))
        for _ in range(4):
            self.go("d", thing(1), thing(0))
        guard = ("kind", self.version("low"))
        places = [(name, row, 0) for name in ("a", "b", "c") for row in (1, 4, 7, 10)]
        places += [("d", 2, 0), ("d", 2, 1)] + [(name, row, 0) for name in ("da", "de") for row in (1, 4, 7, 10)]
        self.assertEqual([paper[:3] for paper in self.quick.papers()], places)
        self.assertEqual(self.quick.papers()[0], ("a", 1, 0, guard, ("low", NONE)))

    def test_three_places_of_a_row(self):
        self.stage([scene for scene in SCENES if scene.name == "add, the turned word"][0])
        self.paper()
        self.assertEqual(self.quick.papers(), [
            ("do", 2, 1, ("word", self.version("low")), ("low", ("deed", "two"))),
            ("do", 2, 2, ("word", self.version("top")), None)])
        self.world.put("top", "radd", ("deed", "two"))
        self.world.out("low", "radd")
        self.quick = Quick(self.world)
        self.world.deed("not", ((push(NOT), ("give",)), ()), takes=("a", "b"))
        self.world.put("top", "radd", ("deed", "not"))
        for _ in range(2):
            self.go("do", thing(3), thing(0))
        found = ("top", ("deed", "not"))
        self.assertEqual(self.quick.papers(), [
            ("do", 2, 0, ("word", self.version("top")), None), ("do", 2, 1, ("word", self.version("low")), found),
            ("do", 2, 2, ("word", self.version("top")), found)])


class Taken(Case):
    def hits_at_once(self, quick):
        """What has the guard is a hit in this machine, and tells what a plain machine tells."""
        scene = self.scene
        world = world_of(self.world.log())
        self.assertEqual(quick.run(scene.run, scene.by), Plain(world).run(scene.run, scene.by))
        self.assertEqual(world, self.world)
        visits = [visit for visit in quick.visits() if visit[:3] == self.place()]
        self.assertEqual(visits, [self.place() + (self.guard(scene.guard), True)], scene.name)

    def test_by_another_machine(self):
        for scene in SCENES:
            self.stage(scene)
            paper = self.paper()
            other = Quick(self.world)
            self.assertIsNone(other.take(paper))
            self.assertEqual(other.state(*self.place()), ("special", paper[3], 0))
            self.assertEqual(other.papers(), [paper])
            # Nothing was looked at, kept or counted.
            self.assertEqual((other.answers(), other.visits(), other.looks(), other.hits(), other.misses()),
                             ([], [], 0, 0, 0))
            self.hits_at_once(other)

    def test_at_a_place_of_any_state(self):
        for scene in SCENES:
            for many in range(9):
                self.stage(scene)
                paper = self.paper()
                for n in range(many):
                    self.go(scene.run, *(scene.other if n < 2 else scene.by))
                counts, answers, visits = self.counts(), self.quick.answers(), self.quick.visits()
                self.quick.take(paper)
                self.assertEqual(self.quick.state(*self.place()), ("special", paper[3], 0))
                self.assertIn(paper, self.quick.papers())
                self.assertEqual((self.counts(), self.quick.answers(), self.quick.visits()), (counts, answers, visits))
                self.hits_at_once(self.quick)

    def test_in_the_place_of_another_guard(self):
        for scene in SCENES:
            self.stage(scene)
            paper = self.paper()
            self.quick = Quick(self.world)
            guard = self.guard(scene.other_guard)
            self.comes("other", ("cold", guard, 1))
            self.comes("other", ("special", guard, 0))
            other = [told for told in self.quick.papers() if told[:3] == self.place()][0]
            self.quick.take(paper)
            self.comes("by", ("special", paper[3], 0))
            self.quick.take(other)
            self.comes("by", ("special", guard, 1))
            self.comes("other", ("special", guard, 1))

    def test_of_a_version_that_is_over(self):
        for scene in SCENES:
            self.stage(scene)
            paper = self.paper()
            number_of_change = len(self.world.log())
            self.world.put(scene.guard[1], "new", NONE)
            self.assertIn(paper, self.quick.papers())
            self.assertIs(is_special(self.world, paper), False)
            self.assertEqual(ended(self.world, paper[3][1]), number_of_change)
            self.refused(paper)
            self.refused(paper, Quick(self.world))
            now = paper[:3] + (self.guard(scene.guard), paper[4])
            self.quick.take(now)
            self.assertEqual([told for told in self.quick.papers() if told[:3] == self.place()], [now])
            self.hits_at_once(self.quick)

    def test_bent_in_one_part(self):
        for scene in SCENES:
            self.stage(scene)
            paper = self.paper()
            deed, row, n, guard, found = paper
            bent = [(other, row, n, guard, found) for other in ("zz", "one", "", None, 0)]
            bent += [(deed, other, n, guard, found) for other in (row - 1, row + 1, -1, 99, None, str(row), True)]
            bent += [(deed, row, other, guard, found) for other in (3, -1, None, "0", False, True)]
            versions = [self.version(kind) for kind in self.world.kinds()]
            for version in [other for other in range(-1, max(versions) + 2) if other not in versions] + [None, "1",
                                                                                                         True]:
                bent.append((deed, row, n, guard[:1] + (version,) + guard[2:], found))
            for sort in ("thing", "kind", "above", "word", "", "cold", None):
                # Only a kind that is read may be in the place of a thing that is.
                if sort != guard[0] and (scene.name, sort) != ("read a gate that writes", "kind"):
                    bent.append((deed, row, n, (sort,) + guard[1:], found))
            bent += [(deed, row, n, other, found) for other in (
                guard + ((),), guard + ("low",), guard[:1], (), None, list(guard), guard[::-1])]
            if len(guard) == 3:
                bent += [(deed, row, n, guard[:2] + (other,), found) for other in (None, [], 0, "zz", ("word", "word"),
                                                                                   ("Word",))]
                bent.append((deed, row, n, guard[:2], found))
            bent += [(deed, row, n, guard, other) for other in (
                None, ("low", YES), ("top", ("number", 77)), ("other", NONE), (), [], 0, ("top",),
                found and list(found),
                found and ("mid", found[1]), found and found + (None,)) if other != found]
            bent += [paper[:4], paper + (None,), list(paper), (paper,), None, (), "", 0, True]
            for other in bent:
                self.refused(other)
                self.refused(other, Quick(self.world))

    def test_places_that_no_look_can_make_so(self):
        # All that is right may be taken, whether the row is ever come to, and whether there is such a thing.
        self.deed("do", X, ("give",), X, ("read", "word"), takes=("x",))
        shape = tuple("w" + sign for sign in "abcdefg") + ("word",)
        paper = ("do", 3, 0, ("thing", self.version("low"), shape), None)
        self.quick.take(paper)
        self.assertEqual(self.quick.papers(), [paper])
        self.refused(("do", 3, 0, ("thing", self.version("low"), shape[:7]), None))
        self.refused(("do", 3, 0, ("thing", self.version("low"), ("wh",) + shape), None))
        self.world.put("low", "word", YES)
        paper = ("do", 3, 0, ("thing", self.version("low"), ()), ("low", YES))
        self.quick.take(paper)
        self.assertEqual(self.quick.papers(), [paper])
        self.refused(("do", 3, 0, ("thing", self.version("low"), ()), ("low", ("truth", 1))))

    def test_a_shape_that_comes_later(self):
        self.deed("do", X, ("read", "word"), takes=("x",))
        self.quick.take(("do", 1, 0, ("thing", self.version("low"), ("own", "word")), None))
        self.world.lay(0, "word", number(1))
        self.assertEqual(self.go("do", thing(0)), ("gave", number(1)))
        self.assertEqual((self.quick.hits(), self.quick.misses()), (0, 1))
        self.world.lift(0, "word")
        self.world.lay(0, "own", number(2))
        self.world.lay(0, "word", number(3))
        self.assertEqual(self.go("do", thing(0)), ("gave", number(3)))
        self.assertEqual((self.quick.hits(), self.quick.misses(), self.quick.looks()), (1, 1, 3))

    def test_calm_forgets_it(self):
        self.deed("do", X, ("read", "word"), takes=("x",))
        self.deed("calm", ("calm",), push(text("")))
        self.quick.take(("do", 1, 1, ("word", self.version("low")), None))
        self.go("calm")
        self.assertEqual((self.quick.papers(), self.quick.state("do", 1, 1)), ([], COLD))

    def test_machines_know_nothing_of_one_another(self):
        self.stage(SCENES[1])
        paper = self.paper()
        one, other = Quick(self.world), Quick(self.world)
        new, before = self.all_told(other), self.all_told()
        one.take(paper)
        self.assertEqual((self.all_told(other), self.all_told()), (new, before))


class Drawn(QuickCase):
    def history(self, source):
        """Draw a world, and run some deeds of it in a quick machine again and again."""
        changes, things = draw_changes(source)
        self.world = world_of(changes)
        self.quick = Quick(self.world)
        self.jobs = []
        for _ in range(6):
            deed = source.choice(DEEDS)
            takes = [change[3] for change in changes if change[:2] == ("deed", deed)][0]
            self.jobs.append((deed, tuple(("thing", source.randrange(things)) if source.random() < 0.8
                                          else draw_worth(source, things) for _ in takes)))
        for job in self.jobs * 3:
            self.quick.run(*job)

    def test_papers_handed_over_in_any_order(self):
        handed = hits = 0
        for seed in range(3000, 3100):
            source = random.Random(seed)
            self.history(source)
            second = second_of(self.world.log())
            now = [self.world.version(kind) for kind in self.world.kinds()]
            papers = self.quick.papers()
            standing = [paper for paper in papers if paper[3][1] in now]
            for paper in standing:
                shapes = paper[3][2:] if paper[3][0] == "thing" else []
                self.assertIn(paper, right_papers(second, *paper[:3], shapes))
            for order in (papers, papers[::-1], source.sample(papers, len(papers)), papers + papers):
                other = Quick(self.world)
                for paper in order:
                    if paper in standing:
                        other.take(paper)
                    else:
                        self.assertRaises(NoPaper, other.take, paper)
                self.assertEqual(other.papers(), standing)
            handed += len(standing)
            # Whatever is taken, it tells what a plain machine tells.
            copies = [world_of(self.world.log()) for _ in range(2)]
            other, plain = Quick(copies[0]), Plain(copies[1])
            for paper in standing:
                other.take(paper)
            for job in self.jobs:
                before = (other.looks(), plain.looks())
                self.assertEqual(other.run(*job), plain.run(*job))
                self.assertLessEqual(other.looks() - before[0], plain.looks() - before[1])
            hits += other.hits()
            self.assertEqual(copies[0].log(), copies[1].log())
            self.assertEqual(snapshot(copies[0]), snapshot(copies[1]))
        self.assertGreater(handed, 150)
        self.assertGreater(hits, 400)

    def test_any_right_papers(self):
        # Taken are papers that no machine has told, as the second way makes them.
        taken = hits = 0
        for seed in range(4000, 4060):
            source = random.Random(seed)
            self.history(source)
            second = second_of(self.world.log())
            shapes = [self.world.shape(n) for n in range(len(self.world))] + [(), ("red",)]
            quick, world = Quick(self.world), world_of(self.world.log())
            plain = Plain(world)
            for deed, arguments in self.jobs:
                rows = second.deeds[deed][0][0]
                for row in range(len(rows)):
                    for n in range(3):
                        right = right_papers(second, deed, row, n, shapes)
                        for paper in source.sample(right, min(1, len(right))):
                            quick.take(paper)
                            self.assertIn(paper, quick.papers())
                            taken += 1
                self.assertEqual(quick.run(deed, arguments), plain.run(deed, arguments))
                self.assertEqual(self.world.log(), world.log())
                second = second_of(self.world.log())
            hits += quick.hits()
            self.assertEqual(snapshot(self.world), snapshot(world))
        self.assertGreater(taken, 1000)
        self.assertGreater(hits, 100)


if __name__ == "__main__":
    unittest.main()
