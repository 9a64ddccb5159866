"""What the tests of the quick machine share."""

from plains import Kin
from swiftkin.plain import Plain
from swiftkin.quick import Quick
from swiftkin.world import world_of
from worlds import snapshot

COLD = ("cold", None, 0)


class QuickCase(Kin):
    """Each run in self.world is made by self.quick, and by a plain machine in a world made anew."""

    def setUp(self):
        super().setUp()
        self.quick = Quick(self.world)

    def go(self, deed, *arguments, most=400, quick=None):
        """Run a deed; tell its end. A plain machine tells the same, leaves the same, and looks at no less."""
        quick = quick or self.quick
        world = world_of(self.world.log())
        plain = Plain(world)
        before = quick.looks()
        told = quick.run(deed, arguments, most=most)
        self.assertEqual(told, plain.run(deed, arguments, most=most))
        self.assertEqual(world, self.world)
        self.assertEqual(snapshot(world), snapshot(self.world))
        self.assertLessEqual(quick.looks() - before, plain.looks())
        return told[0]

    def version(self, kind):
        return self.world.version(kind)

    def counts(self):
        return (self.quick.looks(), self.quick.hits(), self.quick.misses())

    def all_told(self, quick=None):
        """All that a quick machine tells, of all places that there may be."""
        quick = quick or self.quick
        places = [(change[1], row, number) for change in self.world.log() if change[0] == "deed"
                  for row in range(-1, len(change[2][0]) + 1) for number in range(-1, 4)]
        return repr(([quick.state(*place) for place in places], quick.answers(), quick.visits(), quick.papers(),
                     quick.looks(), quick.hits(), quick.misses()))
