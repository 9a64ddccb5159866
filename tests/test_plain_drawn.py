"""Promises [12] to [18]: runs of drawn deeds, held against a second machine over a second world."""

import random
import unittest

from drawn_code import DEEDS, draw_changes, draw_worth
from second_machine import SecondMachine
from second_world import SecondWorld
from swiftkin.plain import Plain
from swiftkin.world import world_of
from worlds import snapshot

TEXTS = ("nokind nodeed nolocal noword nohome shut full round noline deep nocall takes beyond noadd noless nosize "
         "badsize badtruth").split()


class Drawn(unittest.TestCase):
    def setUp(self):
        self.met = {}

    def worlds(self, source):
        changes, things = draw_changes(source)
        second = SecondWorld()
        for change in changes:
            second.change(change)
        return world_of(changes), second, things

    def both(self, world, second, machines, deed, arguments, most):
        """Run in both: they tell the same, and leave the same."""
        plain, other = machines
        told = plain.run(deed, arguments, most=most)
        self.assertEqual(told, other.run(deed, arguments, most))
        self.assertEqual(plain.looks(), other.looks)
        self.assertEqual(world.log(), second.log)
        key = told[0][1] if told[0][0] == "fell" else told[0][0]
        self.met[key] = self.met.get(key, 0) + 1
        return told

    def alike(self, world, second):
        kinds = [(name, world.line(name), world.words(name)) for name in world.kinds()]
        things = [(world.kind_of(n), world.own(n)) for n in range(len(world))]
        self.assertEqual((kinds, things), second.standing()[:2])
        for name in world.kinds():
            self.assertEqual(world.version(name), second.version(name))
            self.assertEqual(world.picture(world.version(name)), second.pictures[second.version(name)])

    def fitting(self, source, world, things):
        deed = source.choice(DEEDS)
        change = [change for change in world.log() if change[:2] == ("deed", deed)][0]
        low, high = len(change[3]) - len(change[4]), len(change[3])
        many = source.randrange(low, high + 1) if source.random() < 0.9 else source.randrange(5)
        some = [("thing", source.randrange(things)) if source.random() < 0.6 else draw_worth(source, things)
                for _ in range(many)]
        return deed, tuple(some)

    def test_runs_in_drawn_worlds(self):
        for seed in range(700):
            source = random.Random(seed)
            world, second, things = self.worlds(source)
            machines = (Plain(world), SecondMachine(second))
            for _ in range(8):
                deed, arguments = self.fitting(source, world, things)
                most = source.choice([400, 400, 60, source.randrange(12)])
                self.both(world, second, machines, deed, arguments, most)
            self.alike(world, second)
            self.assertEqual(snapshot(world_of(world.log())), snapshot(world))
        for key in TEXTS + ["gave", "tired"]:
            self.assertGreater(self.met.get(key, 0), 0, key)

    def test_bounds_of_just_as_many_steps(self):
        for seed in range(1000, 1150):
            source = random.Random(seed)
            world, second, things = self.worlds(source)
            deed, arguments = self.fitting(source, world, things)
            end, steps = Plain(world).run(deed, arguments)
            if end[0] == "tired":
                continue
            log = second.log
            for most in {max(0, steps - 1), steps, min(400, steps + 1), steps // 2, 0}:
                again = world_of(log)
                told = Plain(again).run(deed, arguments, most=most)
                other = SecondWorld()
                for change in log:
                    other.change(change)
                self.assertEqual(told, SecondMachine(other).run(deed, arguments, most))
                self.assertEqual(again.log(), other.log)
                if most >= steps:
                    self.assertEqual(told, (end, steps))
                    self.assertEqual(again.log(), world.log())
                else:
                    self.assertEqual((told[0][0], told[1]), ("tired", most))
                    self.assertEqual(again.log(), world.log()[:len(again.log())])

    def test_two_machines_count_for_themselves(self):
        source = random.Random(5)
        world, second, things = self.worlds(source)
        one, other = Plain(world), Plain(world)
        looks = []
        for machine in (one, other, one):
            deed, arguments = self.fitting(source, world, things)
            before = machine.looks()
            machine.run(deed, arguments)
            looks.append(machine.looks() - before)
        self.assertEqual((one.looks(), other.looks()), (looks[0] + looks[2], looks[1]))


if __name__ == "__main__":
    unittest.main()
