"""Scenes: each look that a row makes, with what has one guard there, another one, or none."""

from plains import NONE, NOT, YES, number, push, thing
from quicks import QuickCase

X, Y = ("get", "x"), ("get", "y")
HOME = ("bound", "do", "low", thing(0))


class Scene:
    """A look: of the deed do, at the row at (the last one, if none is told), of this number.

    What the deed run is called with has this guard if it is by, other_guard if it is other, and
    no guard if it is none, where there can be such. In guards, kinds stand for their versions.
    """

    def __init__(self, name, rows, number, by, guard, other, other_guard, none=None, at=None, run="do", make=()):
        self.name, self.rows, self.number, self.run, self.make = name, rows, number, run, make
        self.by, self.guard, self.other, self.other_guard, self.none = by, guard, other, other_guard, none
        self.at = len(rows) - 1 if at is None else at


# Things: 0, 2 and 4 of low, 1 of other, 3 of top, 5 of mid.
SCENES = [
    Scene("read a gate that writes", [X, ("read", "word")], 0,
          (thing(0),), ("thing", "low"), (thing(1),), ("thing", "other", ("own",)), (thing(3),),
          make=[("put", "low", "word", ("gate", "one", "two")), ("lay", 1, "own", NONE),
                ("put", "other", "word", NONE)]),
    Scene("read what is found", [X, ("read", "word")], 0,
          (thing(0),), ("thing", "low", ()), (thing(4),), ("thing", "low", ("own",)), (thing(1),),
          make=[("put", "top", "word", ("deed", "one")), ("lay", 4, "own", NONE)]),
    Scene("read a gate", [X, ("read", "word")], 0,
          (thing(0),), ("thing", "low", ()), (("kind", "low"),), ("kind", "low"), (("kind", "other"),),
          make=[("put", "top", "word", ("gate", "one", None))]),
    Scene("read an own word", [X, ("read", "word")], 0,
          (thing(0),), ("thing", "low", ("own", "word")), (thing(4),), ("thing", "low", ("word",)), (thing(1),),
          make=[("lay", 0, "own", NONE), ("lay", 0, "word", YES), ("lay", 4, "word", YES)]),
    Scene("read a kind", [X, ("read", "word")], 0,
          (("kind", "low"),), ("kind", "low"), (thing(0),), ("thing", "low", ()), (("kind", "other"),),
          make=[("put", "top", "word", NONE)]),
    Scene("write, by a gate", [X, push(NOT), ("write", "word"), X], 0,
          (thing(0),), ("thing", "low"), (thing(1),), ("thing", "other", ("word",)), at=2,
          make=[("put", "low", "word", ("gate", "one", "two")), ("lay", 1, "word", NONE)]),
    Scene("write an own word", [X, push(NOT), ("write", "word"), X], 0,
          (thing(0),), ("thing", "low", ("word",)), (thing(4),), ("thing", "low", ("own", "word")), at=2,
          make=[("lay", 0, "word", YES), ("lay", 4, "own", NONE), ("lay", 4, "word", NONE)]),
    Scene("above", [X, ("above", "word")], 0,
          (HOME,), ("above", "low", "low"), (("bound", "do", "mid", thing(0)),), ("above", "low", "mid"),
          (("bound", "do", "top", thing(0)),), run="go", make=[("put", "top", "word", NONE)]),
    Scene("missing", [X, ("read", "word")], 1,
          (thing(0),), ("word", "low"), (thing(1),), ("word", "other"),
          make=[("put", "top", "missing", ("deed", "two")), ("put", "other", "missing", ("deed", "two"))]),
    Scene("missing, that is none", [X, ("read", "word")], 1,
          (thing(0),), ("word", "low"), (thing(1),), ("word", "other"), make=[("put", "other", "missing", NONE)]),
    Scene("begin", [X, ("call", 0)], 0,
          (("kind", "low"),), ("word", "low"), (("kind", "top"),), ("word", "top"),
          make=[("put", "top", "begin", ("deed", "one"))]),
    Scene("begin, that is none", [X, ("call", 0)], 0,
          (("kind", "low"),), ("word", "low"), (("kind", "top"),), ("word", "top")),
    Scene("size", [X, ("size",)], 0, (thing(0),), ("word", "low"), (thing(1),), ("word", "other"),
          make=[("put", "top", "size", ("deed", "zero"))]),
    Scene("truth", [X, ("unless", 2), push(NONE)], 0, (thing(0),), ("word", "low"), (thing(1),), ("word", "other"),
          at=1,
          make=[("put", "top", "truth", ("deed", "yes"))]),
    Scene("size behind truth", [X, ("unless", 2), push(NONE)], 1,
          (thing(0),), ("word", "low"), (thing(1),), ("word", "other"), at=1,
          make=[("put", "top", "size", ("deed", "zero"))]),
]
for row, left, right in (("add", "add", "radd"), ("less", "less", "more"), ("same", "same", "same")):
    SCENES += [
        Scene(row + ", the left side", [X, Y, (row,)], 0,
              (thing(0),), ("word", "low"), (thing(1),), ("word", "other"),
              make=[("put", "top", left, ("deed", "two"))]),
        Scene(row + ", the right side", [Y, X, (row,)], 1,
              (thing(0),), ("word", "low"), (thing(1),), ("word", "other"),
              make=[("put", "top", right, ("deed", "two"))]),
        # The kinds low and mid are below top, so the right side is looked for ahead of all.
        Scene(row + ", the right side ahead", [Y, X, (row,)], 1,
              (thing(0), thing(3)), ("word", "low"), (thing(5), thing(3)), ("word", "mid"),
              make=[("put", "top", right, ("deed", "two"))]),
        Scene(row + ", the turned word", [X, Y, (row,)], 2,
              (thing(3), thing(0)), ("word", "top"), (thing(5), thing(0)), ("word", "mid"),
              make=[("put", "low", right, ("deed", "two"))]),
    ]


class SceneCase(QuickCase):
    def stage(self, scene):
        """Make the world of a scene."""
        self.setUp()
        world = self.world
        world.kind("mid", elders=("top",))
        world.turn("low", elders=("mid",))
        for kind in ("other", "low", "top", "low", "mid"):
            world.thing(kind)
        self.deed("one", push(NONE), takes=("a",))
        self.deed("two", push(NONE), takes=("a", "b"))
        self.deed("zero", push(number(0)), takes=("a",))
        self.deed("yes", push(YES), takes=("a",))
        self.deed("do", *scene.rows, takes=("x", "y"), worths=(NONE,))
        self.deed("go", X, ("call", 0), takes=("x",))
        for what, *parts in scene.make:
            getattr(world, what)(*parts)
        self.scene = scene

    def guard(self, told):
        """Tell a guard, with its kind's version in the place of the kind."""
        return None if told is None else (told[0], self.version(told[1])) + told[2:]

    def place(self):
        return ("do", self.scene.at, self.scene.number)

    def states(self):
        """Tell the states of all places of the row."""
        return {("do", self.scene.at, n): self.quick.state("do", self.scene.at, n) for n in range(3)}

    def comes(self, what, state):
        """By, other or none comes to the place, which has this state then. Visits and counts say the same."""
        scene = self.scene
        guard = {"by": self.guard(scene.guard), "other": self.guard(scene.other_guard), "none": None}[what]
        before, hits, misses = self.states(), self.quick.hits(), self.quick.misses()
        self.go(scene.run, *getattr(scene, what))
        name = (scene.name, what, before[self.place()])
        self.assertEqual(self.quick.state(*self.place()), state, name)
        visits = self.quick.visits()
        hit = before[self.place()][0] == "special" and before[self.place()][1] == guard
        self.assertEqual([visit for visit in visits if visit[:3] == self.place()], [self.place() + (guard, hit)], name)
        self.assertEqual({type(visit[4]) for visit in visits}, {bool})
        missed = [visit for visit in visits if not visit[4] and before[visit[:3]][0] == "special"]
        self.assertEqual(self.quick.hits() - hits, len([visit for visit in visits if visit[4]]), name)
        self.assertEqual(self.quick.misses() - misses, len(missed), name)

    def make_special(self):
        """Make the scene's place special, and tell its guard."""
        guard = self.guard(self.scene.guard)
        self.comes("by", ("cold", guard, 1))
        self.comes("by", ("special", guard, 0))
        return guard
