"""Promises [3], [18] to [21], [27]: quick machines in drawn worlds, held against a plain one and a second way."""

import random
import unittest

import drawn_looks
from drawn_code import DEEDS, KINDS, WORDS, draw_changes, draw_word, draw_worth
from second_machine import SecondMachine
from second_quick import Ledger
from second_world import Refused, SecondWorld
from swiftkin.errors import KinError
from swiftkin.papers import ended, is_special
from swiftkin.plain import Plain
from swiftkin.quick import Quick
from swiftkin.world import world_of
from worlds import snapshot


def change(world, what):
    """Change a world; tell whether it was not refused."""
    try:
        if what[0] in ("turn", "kind"):
            getattr(world, what[0])(what[1], elders=what[2])
        else:
            getattr(world, what[0])(*what[1:])
    except KinError:
        return False
    return True


class Coded:
    """Worlds of long drawn codes."""

    WORDS = WORDS
    draw_changes = staticmethod(draw_changes)

    @staticmethod
    def draw_word(source, things):
        return draw_word(source, things)

    @staticmethod
    def draw_jobs(source, changes, things):
        jobs = []
        for _ in range(source.choice([2, 3, 4])):
            deed = source.choice(DEEDS)
            made = [one for one in changes if one[:2] == ("deed", deed)][0]
            many = source.randrange(len(made[3]) - len(made[4]), len(made[3]) + 1)
            jobs.append((deed, tuple(("thing", source.randrange(things)) if source.random() < 0.7
                                     else draw_worth(source, things) for _ in range(many))))
        return jobs


class Looking:
    """Worlds with a deed for each row that looks."""

    WORDS = drawn_looks.WORDS
    draw_changes = staticmethod(drawn_looks.draw_looks)

    @staticmethod
    def draw_word(source, things):
        return drawn_looks.draw_worth(source)

    @staticmethod
    def draw_jobs(source, changes, things):
        return drawn_looks.draw_jobs(source)


class History:
    """One drawn history: the same changes and runs in four worlds, with a machine each, and in a second world."""

    MAKES = {"plain": Plain, "quick": Quick, "one": lambda world: Quick(world, answers=1), "new": Quick}

    def __init__(self, case, sort, seed):
        self.case, self.sort, self.source = case, sort, random.Random(seed)
        changes, self.things = sort.draw_changes(self.source)
        self.worlds = {name: world_of(changes) for name in self.MAKES}
        self.machines = {name: make(self.worlds[name]) for name, make in self.MAKES.items()}
        self.second = SecondMachine(SecondWorld())
        for one in changes:
            self.second.world.change(one)
        self.ledgers = {"quick": Ledger(), "one": Ledger(1)}
        self.jobs = sort.draw_jobs(self.source, changes, self.things)

    def run(self):
        """Run a deed in all: they tell the same, and leave the same."""
        case, job = self.case, self.source.choice(self.jobs)
        most = self.source.choice([400, 400, 400, 60, self.source.randrange(12)])
        self.machines["new"] = Quick(self.worlds["new"])
        self.ledgers["new"] = Ledger()
        looked, told = {}, self.second.run(*job, most)
        for name, machine in self.machines.items():
            before = machine.looks()
            case.assertEqual(machine.run(*job, most=most), told, name)
            looked[name] = machine.looks() - before
            case.assertLessEqual(looked[name], looked["plain"], name)
            case.assertEqual(self.worlds[name].log(), self.second.world.log, name)
        for name, ledger in self.ledgers.items():
            ledger.run(self.second.notes)
            self.accounted(self.machines[name], ledger)
        case.count(told[0][0])
        case.count("saved", looked["plain"] - looked["quick"])

    def accounted(self, machine, ledger):
        """The machine tells what the ledger has."""
        case = self.case
        case.assertEqual(machine.visits(), ledger.visits)
        case.assertEqual(machine.answers(), ledger.answers())
        case.assertEqual((machine.looks(), machine.hits(), machine.misses()),
                         (ledger.looks, ledger.hits, ledger.misses))
        case.assertEqual(machine.papers(), ledger.papers())
        for place in ledger.places:
            case.assertEqual(machine.state(*place), ledger.state(*place))
            case.count(ledger.state(*place)[0])
        for visit in ledger.visits:
            case.count(("hit " if visit[4] else "look ") + (visit[3][0] if visit[3] else "none"))

    def judge_papers(self):
        """Each paper stands and is right, or its version is over."""
        world = self.worlds["quick"]
        now = [world.version(kind) for kind in world.kinds()]
        for paper in self.machines["quick"].papers():
            stands = paper[3][1] in now
            self.case.assertIs(is_special(world, paper), stands, paper)
            self.case.assertIs(ended(world, paper[3][1]) is None, stands)
            self.case.count("stands" if stands else "over")

    def change(self):
        """Make a drawn change in all."""
        what = self.drawn_change()
        done = {change(world, what) for world in self.worlds.values()}
        try:
            self.second.world.change(what)
            self.case.assertEqual(done, {True})
        except Refused:
            self.case.assertEqual(done, {False})

    def drawn_change(self):
        """Draw a change, mostly one of what runs look at."""
        source, world = self.source, self.worlds["plain"]
        kind, word, n = source.choice(KINDS), source.choice(self.sort.WORDS), source.randrange(self.things)
        sort = source.randrange(12)
        if sort < 3:
            return ("put", kind, word, self.sort.draw_word(source, self.things))
        if sort < 5:
            return ("out", kind, source.choice([name for name, _ in world.words(kind)] or [word]))
        if sort < 7:
            return ("turn", kind, tuple(source.sample(KINDS, source.choice([0, 1, 1, 2, 2, 3]))))
        if sort < 9:
            return ("lay", n, word, draw_worth(source, self.things) if sort < 8 else ("none",))
        if sort < 11:
            return ("lift", n, source.choice([name for name, _ in world.own(n)] or [word]))
        return source.choice([("thing", kind), ("kind", "new", (kind,))])

    def end(self):
        """The worlds are equal."""
        first = self.worlds["plain"]
        for world in self.worlds.values():
            self.case.assertEqual(world, first)
            self.case.assertEqual(snapshot(world), snapshot(first))


class Drawn(unittest.TestCase):
    ALL = ("gave, fell, saved, look word, look thing, look none, look kind, look above, hit word, hit thing, hit kind, "
           "hit above, stands, over, cold, special, rest")

    def setUp(self):
        self.met = {}

    def count(self, key, many=1):
        self.met[key] = self.met.get(key, 0) + many

    def histories(self, sort, seeds, rounds, changes):
        for seed in seeds:
            history = History(self, sort, seed)
            for _ in range(rounds):
                history.run()
                if history.source.random() < changes:
                    history.change()
                history.judge_papers()
            history.end()

    def all_met(self, least, keys):
        for key in keys.split(", "):
            self.assertGreater(self.met.get(key, 0), least, (key, self.met))

    def test_long_codes(self):
        self.histories(Coded, range(300), 14, 0.5)
        self.all_met(500, "gave, fell, look word, look thing, look none, hit word, hit thing, saved, stands, over")
        self.all_met(100, "tired, cold, special, rest")

    def test_long_codes_with_few_changes(self):
        self.histories(Coded, range(2000, 2080), 24, 0.08)
        self.all_met(200, "gave, fell, look word, look thing, look none, hit word, hit thing, saved, stands")

    def test_each_look(self):
        self.histories(Looking, range(5000, 5150), 40, 0.1)
        self.all_met(150, self.ALL)

    def test_each_look_with_many_changes(self):
        self.histories(Looking, range(6000, 6150), 40, 0.4)
        self.all_met(50, self.ALL)


if __name__ == "__main__":
    unittest.main()
