"""What the tests of the world share."""

import unittest

from swiftkin.errors import KinError
from swiftkin.papers import ended
from swiftkin.world import World

GIVE = ((("push", ("none",)), ("give",)), ())


def snapshot(world):
    """Tell all that is told of a world, as a text, so that 1 and True are two."""
    versions = [world.version(name) for name in world.kinds()]
    given = range(max(versions, default=-1) + 1)
    return repr((
        [(name, world.line(name), world.below(name), world.words(name)) for name in world.kinds()],
        versions, [world.picture(version) for version in given], [ended(world, version) for version in given],
        [(world.kind_of(n), world.own(n), world.shape(n)) for n in range(len(world))],
        world.log(),
    ))


def full_world(kinds=0, words=0, things=0, own=0, deeds=0):
    """Make a world of so many kinds aa, ab .., words of aa, things of aa, own words of thing 0, deeds."""
    world = World()
    for n in range(kinds):
        world.kind("a" + "abcdefghijkl"[n])
    for n in range(words):
        world.put("aa", "w" + "abcdefghijkl"[n], ("number", n))
    for _ in range(things):
        world.thing("aa")
    for n in range(own):
        world.lay(0, "o" + "abcdefghijkl"[n], ("number", n))
    for n in range(deeds):
        world.deed("d" + "abcdefghijkl"[n], GIVE)
    return world


class Case(unittest.TestCase):
    def refused(self, refusal, world, do):
        """Doing this is refused with just this class, and leaves the world as it was."""
        before = snapshot(world)
        with self.assertRaises(KinError) as caught:
            do()
        self.assertIs(type(caught.exception), refusal)
        self.assertEqual(snapshot(world), before)
        return caught.exception
