"""What the tests of the plain machine share."""

import unittest

from swiftkin.plain import Plain
from swiftkin.world import World, world_of

NONE, NOT, YES, NO = ("none",), ("not",), ("truth", True), ("truth", False)


def number(n):
    return ("number", n)


def text(t):
    return ("text", t)


def thing(n):
    return ("thing", n)


def push(worth):
    return ("push", worth)


def giving(*rows, guards=()):
    """Tell the code of these rows, which leave one worth, and a give."""
    return (rows + (("give",),), guards)


class Case(unittest.TestCase):
    """Each test makes its world in self.world; each run is made in worlds made anew from its log."""

    def setUp(self):
        self.world = World()

    def deed(self, name, *rows, takes=(), worths=(), guards=()):
        """Make a deed of these rows and a give."""
        self.world.deed(name, giving(*rows, guards=guards), takes=takes, worths=worths)

    def run_it(self, deed, arguments=(), most=400):
        """Run a deed in a world made anew; tell (end, steps), how much was looked at, and what was changed."""
        world = world_of(self.world.log())
        machine = Plain(world)
        told = machine.run(deed, arguments, most=most)
        self.assertEqual((type(told), type(told[0]), type(told[1])), (tuple, tuple, int))
        return told, machine.looks(), world.log()[len(self.world.log()):]

    def ends(self, end, steps, deed, arguments=(), looks=None, changes=None):
        """A run ends so, in so many steps: also where the bound is just that, or one more; not where it is one less."""
        told, looked, changed = self.run_it(deed, arguments)
        self.assertEqual(told, (end, steps))
        if looks is not None:
            self.assertEqual(looked, looks)
        if changes is not None:
            self.assertEqual(changed, changes)
        for most in (steps, min(400, steps + 1)):
            self.assertEqual(self.run_it(deed, arguments, most), ((end, steps), looked, changed))
        if steps and end[0] != "tired":
            less, _, before = self.run_it(deed, arguments, steps - 1)
            self.assertEqual((less[0][0], less[1]), ("tired", steps - 1))
            self.assertEqual(before, changed[:len(before)])

    def gives(self, worth, steps, deed, arguments=(), looks=None, changes=None):
        self.ends(("gave", worth), steps, deed, arguments, looks, changes)

    def falls(self, word, trail, steps, deed, arguments=(), looks=None, changes=None):
        self.ends(("fell", word, trail), steps, deed, arguments, looks, changes)

    def row_gives(self, worth, *rows, steps=0, arguments=(), takes=(), looks=None, changes=None):
        """A deed of these rows and a give gives this worth; steps are those of the calls within."""
        world = self.world
        self.world = world_of(world.log())
        self.deed("do", *rows, takes=takes)
        self.gives(worth, len(rows) + 1 + steps, "do", arguments, looks, changes)
        self.world = world

    def row_falls(self, word, *rows, within=(), steps=0, arguments=(), takes=(), looks=None, changes=None):
        """The last of these rows falls, and is caught just where a guard of its deed has it.

        Within are the calls that stand in the trail behind this one, steps those of the calls within.
        """
        at = len(rows) - 1
        pad = (push(NONE),) if rows[-1][0] in ("write", "drop", "elders", "unless") else ()
        goes = at + 1 + len(pad) + 1
        tail = pad + (("give",), ("give",), ("let", "fall"), push(text("second")), ("give",))
        guards = {
            "none": (), "ahead": ((0, at, goes, 0),) if at else (), "behind": ((at + 1, at + 2, goes, 0),),
            "one": ((at, at + 1, goes, 0),), "all": ((0, at + 2, goes, 0),),
            "first": ((at, at + 1, goes, 0), (0, at + 1, goes + 1, 0)),
            "second": ((at, at + 1, goes + 1, 0), (0, at + 1, goes, 0)),
        }
        world = self.world
        for name, some in guards.items():
            self.world = world_of(world.log())
            self.world.deed("do", (rows + tail, some), takes=takes)
            if name in ("one", "all", "first"):
                self.gives(text(word), at + 2 + steps, "do", arguments, looks, changes)
            elif name == "second":
                self.gives(text("second"), at + 4 + steps, "do", arguments, looks, changes)
            else:
                self.falls(word, (("do", at),) + within, at + 1 + steps, "do", arguments, looks, changes)
        self.world = world


class Kin(Case):
    """A world of kinds top, low below it, and other, with a thing of low, and a deed me that gives what it takes."""

    def setUp(self):
        super().setUp()
        self.world.kind("top")
        self.world.kind("low", elders=("top",))
        self.world.kind("other")
        self.world.thing("low")
        self.deed("me", ("get", "it"), takes=("it",))
