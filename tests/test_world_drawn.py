"""Worlds made by drawn changes, held against a second way of finding all that stands."""

import random
import unittest

import drawn
from second_world import Refused, SecondWorld
from swiftkin import errors
from swiftkin.errors import KinError, NoChange
from swiftkin.lines import is_ring
from swiftkin.papers import ended
from swiftkin.world import World, world_of
from worlds import full_world, snapshot


def do(world, change):
    """Make a change like those of the log."""
    sort, *parts = change
    if sort in ("kind", "turn"):
        return getattr(world, sort)(parts[0], elders=parts[1])
    if sort == "deed":
        return world.deed(parts[0], parts[1], takes=parts[2], worths=parts[3])
    return getattr(world, sort)(*parts)


class Drawn(unittest.TestCase):
    def make(self, seed, many, first=()):
        """Draw a world, and its second, both with these changes first."""
        source = random.Random(seed)
        world, second = World(), SecondWorld()
        for change in first:
            self.both(world, second, change)
        for _ in range(many):
            self.both(world, second, drawn.change(source, second))
        return world, second, source

    def both(self, world, second, change):
        """Make a change in both: they refuse it alike."""
        try:
            second.change(change)
        except Refused as refused:
            with self.assertRaises(KinError) as caught:
                do(world, change)
            self.assertIs(type(caught.exception), getattr(errors, refused.name), change)
            self.told[refused.name] = self.told.get(refused.name, 0) + 1
            if refused.more:
                self.assertEqual((caught.exception.name, caught.exception.rows), refused.more)
                self.assertTrue(is_ring(caught.exception.rows, caught.exception.ring))
            return
        do(world, change)

    def setUp(self):
        self.told = {}

    def alike(self, world, second):
        """All that is told of a world is what the second way finds."""
        self.assertEqual(world.kinds(), second.kinds())
        for name in second.kinds():
            self.assertEqual(world.line(name), second.line(name))
            self.assertEqual(world.below(name), second.below(name))
            self.assertEqual(world.words(name), second.words(name))
            self.assertEqual(world.version(name), second.version(name))
            for word in drawn.WORDS + ["zz"]:
                self.assertEqual(world.found(name, word), second.found(name, word))
        self.assertEqual(len(world), len(second.kind_of))
        for n, kind in enumerate(second.kind_of):
            self.assertEqual((world.kind_of(n), world.own(n), world.shape(n)), (kind, second.own(n), second.shape(n)))
        self.assertEqual(world.log(), second.log)
        for version, picture in enumerate(second.pictures):
            self.assertEqual(world.picture(version), picture)
            self.assertEqual(ended(world, version), second.ends.get(version))

    def test_worlds_of_up_to_forty_changes(self):
        lengths = 0
        for seed in range(400):
            world, second, _ = self.make(seed, seed % 41)
            self.alike(world, second)
            again = world_of(world.log())
            self.assertEqual(again, world)
            self.assertEqual(snapshot(again), snapshot(world))
            lengths += len(world.log())
        self.assertGreater(lengths, 2500)
        for refusal in "NoName NoKind NoLine NoThing NoWord NoWorth Round".split():
            self.assertGreater(self.told[refusal], 30, refusal)

    def test_worlds_that_are_all_but_full(self):
        first = full_world(kinds=11, words=11, things=59, own=7, deeds=11).log()
        for seed in range(600, 630):
            world, second, _ = self.make(seed, 40, first)
            self.alike(world, second)
            self.assertEqual(snapshot(world_of(world.log())), snapshot(world))
        self.assertGreater(self.told["Full"], 60)

    def test_each_step_of_a_world(self):
        for seed in range(400, 430):
            world, second = World(), SecondWorld()
            source = random.Random(seed)
            for _ in range(40):
                before = snapshot(world)
                change = drawn.change(source, second)
                logged = len(second.log)
                self.both(world, second, change)
                if len(second.log) == logged:
                    self.assertEqual(snapshot(world), before)
                self.alike(world, second)

    def test_bent_logs(self):
        bent_ones = 0
        for seed in range(500, 560):
            world, _, source = self.make(seed, 40)
            log = world.log()
            for _ in range(25):
                number = source.randrange(len(log))
                changes = self.bent(source, log, number)
                number = self.first_refused(changes)
                bent_ones += number is not None
                if number is None:
                    self.assertEqual(world_of(changes).log(), changes)
                else:
                    with self.assertRaises(NoChange) as caught:
                        world_of(changes)
                    self.assertEqual(caught.exception.number, number)
        self.assertGreater(bent_ones, 400)

    def bent(self, source, log, number):
        """Bend a log at one place."""
        change = log[number]
        part = source.randrange(len(change))
        other = source.choice([
            source.choice(drawn.KINDS), source.choice(drawn.WORDS), source.randrange(3), None, (),
            ("aa",), ["aa"], True, ("number", 1), ("thing", 3), source.choice(drawn.NOT_NAMES),
        ])
        return source.choice([
            log[:number] + log[number + 1:],
            log[:number] + [change] + log[number:],
            log[:number] + [change[:part] + (other,) + change[part + 1:]] + log[number + 1:],
            log[:number] + [change[:part] + change[part + 1:]] + log[number + 1:],
            log[:number] + [drawn.change(source)] + log[number + 1:],
        ])

    def first_refused(self, changes):
        """Tell the number of the first change that is refused, by the second way."""
        second = SecondWorld()
        forms = {"kind": "nt", "turn": "nt", "put": "nnw", "out": "nn", "thing": "n", "lay": "iwn", "lift": "in",
                 "deed": "nctt"}
        for number, change in enumerate(changes):
            try:
                if type(change) is not tuple or type(change[0]) is not str or change[0] not in forms:
                    return number
                if len(change) != len(forms[change[0]]) + 1:
                    return number
                tuples = {"kind": [2], "turn": [2], "deed": [3, 4]}.get(change[0], [])
                if any(type(change[at]) is not tuple for at in tuples):
                    return number
                if change[0] == "deed" and change[2] not in drawn.CODES:
                    return number
                second.change(change)
            except (Refused, IndexError):
                return number
        return None


if __name__ == "__main__":
    unittest.main()
