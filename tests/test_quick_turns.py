"""Promise [3]: what deeds change while they run, ahead of and behind special places, a quick machine finds, too."""

import itertools
import unittest

from plains import NO, NONE, NOT, YES, number, push, text, thing
from quicks import QuickCase
from swiftkin.quick import Quick

X = ("get", "x")


# Rows that leave the gate that other has.
GATE = [("kind", "other"), ("read", "gate")]


def put(kind, word, worth):
    """Rows that put a word of a kind: the worth is a plain one, a deed, or rows that leave it."""
    rows = worth if isinstance(worth, list) else [worth if worth[0] == "deed" else push(worth)]
    return [("kind", kind), *rows, ("write", word)]


def out(kind, word):
    return [("kind", kind), ("drop", word)]


def turn(kind, *elders):
    return [("kind", name) for name in (kind,) + elders] + [("elders", len(elders))]


def lay(word, worth):
    return [X, push(worth), ("write", word)]


def lift(word):
    return [X, ("drop", word)]


class Turns(QuickCase):
    """A deed look has the place; a deed do calls it, makes changes, and calls it again.

    Kinds top, mid below it, low below both, and other; things 0 and 2 of low, 1 of other, 3 of top. Top's word is 1,
    other's is 2.
    """

    LOOKS = {
        "read": [X, ("read", "word")],
        "write": [X, push(NOT), ("write", "word"), X, ("read", "word")],
        "call": [("kind", "low"), ("call", 0), ("let", "n"), X, ("read", "word")],
        "add": [X, push(NONE), ("add",)],
        "less": [X, ("get", "y"), ("less",)],
        "more": [("get", "y"), X, ("less",)],
        "same": [("get", "y"), X, ("same",)],
        "size": [X, ("size",)],
        "truth": [X, ("unless", 4), push(YES), ("give",), push(NO)],
    }

    def stage(self, look):
        self.setUp()
        world = self.world
        world.kind("mid", elders=("top",))
        world.turn("low", elders=("mid", "top"))
        for kind in ("other", "low", "top"):
            world.thing(kind)
        world.put("top", "word", number(1))
        world.put("other", "word", number(2))
        self.deed("one", push(number(1)), takes=("a",))
        self.deed("two", push(number(2)), takes=("a", "b"))
        self.deed("three", push(number(3)), takes=("a", "b"))
        self.deed("yes", push(YES), takes=("a",))
        self.deed("look", *look, takes=("x", "y"), worths=(NONE,))

    def do(self, *changes):
        """Make the deed do, with these rows as its changes."""
        rows = [row for change in changes for row in change]
        self.deed("do", ("deed", "look"), X, ("get", "y"), ("call", 2), ("let", "fore"), *rows,
                  ("deed", "look"), X, ("get", "y"), ("call", 2), takes=("x", "y"), worths=(NONE,))

    def special(self, *arguments):
        """Make the place special by runs of look alone."""
        for _ in range(3):
            told = self.go("look", *arguments)
        self.assertIn(True, [visit[4] for visit in self.quick.visits()])
        return told

    def test_words_of_kinds(self):
        some = [
            ([put("top", "word", YES)], YES), ([put("low", "word", YES)], YES), ([put("mid", "word", YES)], YES),
            ([put("other", "word", YES)], number(1)), ([put("low", "new", YES)], number(1)),
            ([out("top", "word")], None), ([put("low", "word", YES), out("low", "word")], number(1)),
            ([put("top", "word", YES), put("top", "word", number(1))], number(1)),
            ([put("low", "word", ("deed", "one"))], ("bound", "one", "low", thing(0))),
            ([turn("low", "other")], number(2)), ([turn("low")], None), ([turn("mid", "other")], number(2)),
            ([turn("low", "other", "mid")], number(2)), ([turn("mid")], number(1)), ([turn("top", "other")], number(1)),
            ([turn("low", "other"), turn("low", "mid", "top")], number(1)),
            ([lay("word", YES)], YES), ([lay("own", YES)], number(1)), ([lay("own", YES), lift("own")], number(1)),
            ([lay("word", YES), out("top", "word")], YES), ([lay("word", YES), lift("word"), lay("own", YES)],
                                                            number(1)),
        ]
        for changes, worth in some:
            self.stage(self.LOOKS["read"])
            self.do(*changes)
            self.assertEqual(self.special(thing(0)), ("gave", number(1)))
            end = self.go("do", thing(0))
            self.assertEqual(end, ("gave", worth) if worth else ("fell", "noword", (("do", self.last()), ("look", 1))))
            # Ahead of the changes the place was special.
            self.assertIs(self.quick.visits()[0][4], True)
            for n in (0, 2, 1, 0, 0, 0):
                self.go("look", thing(n))

    def last(self):
        code = [change[2] for change in self.world.log() if change[:2] == ("deed", "do")][0]
        return len(code[0]) - 2

    def test_gates_that_come_and_go(self):
        for look in ("read", "write"):
            for one, other in itertools.permutations((("gate", "one", None), ("gate", "one", "two"), number(1), None),
                                                     2):
                self.stage(self.LOOKS[look])
                world = self.world
                world.out("top", "word")
                if one:
                    world.put("low", "word", one)
                world.put("other", "gate", other or NONE)
                self.do(put("low", "word", YES), put("low", "word", GATE), [] if other else out("low", "word"))
                for n in (0, 0, 2, 2, 0):
                    self.go("look", thing(n))
                for n in (0, 2, 0):
                    self.go("do", thing(n))
                    self.go("look", thing(n))

    def test_each_look_behind_each_change(self):
        changes = [
            put("low", "add", ("deed", "three")), put("top", "less", ("deed", "two")),
            put("low", "more", ("deed", "three")),
            out("low", "same"), put("mid", "same", ("deed", "three")), put("low", "begin", ("deed", "yes")),
            out("top", "size"), put("low", "size", ("deed", "one")), put("mid", "truth", ("deed", "yes")),
            out("top", "truth"),
            turn("low", "other"), turn("low", "top"), turn("top", "other"), turn("mid", "other", "top"),
            lay("word", YES),
            put("low", "word", GATE), put("top", "missing", ("deed", "three")), out("top", "add"), [],
        ]
        for look, rows in self.LOOKS.items():
            for change in changes:
                self.stage(rows)
                world = self.world
                for word, deed in (("add", "two"), ("less", "three"), ("more", "two"), ("size", "one"),
                                   ("truth", "yes")):
                    world.put("top", word, ("deed", deed))
                world.put("low", "same", ("deed", "two"))
                world.put("other", "size", ("deed", "one"))
                world.put("other", "gate", ("gate", "one", "two"))
                self.do(change)
                with_y = thing(3) if look in ("less", "more", "same") else NONE
                for n in (0, 0, 2, 0):
                    self.go("look", thing(n), with_y)
                for n in (0, 2, 0, 0, 1, 0):
                    self.go("do", thing(n), with_y)
                    self.go("look", thing(n), with_y)
                self.go("do", thing(0), with_y, quick=Quick(self.world, answers=1))

    def test_above(self):
        changes = {
            "none": ([], number(1)), "at the home": (put("low", "word", YES), number(1)),
            "behind it": (put("mid", "word", YES), YES), "gone": (out("top", "word"), "noword"),
            "turned": (turn("low", "other"), number(2)), "turned behind": (turn("mid", "other"), number(2)),
            "no elders": (turn("low"), "noword"), "an own word": (lay("word", YES), number(1)),
            "a home that is gone": (turn("low", "top"), number(1)),
        }
        for name, (change, worth) in changes.items():
            for home in ("low", "mid"):
                self.stage([X, ("above", "word")])
                self.deed("go", ("get", "f"), ("call", 0), takes=("f",))
                self.deed("do", ("get", "f"), ("call", 0), ("let", "fore"), *change, ("get", "f"), ("call", 0),
                          takes=("f", "x"))
                bound = ("bound", "look", home, thing(0))
                for _ in range(3):
                    self.assertEqual(self.go("go", bound), ("gave", number(1)))
                self.assertEqual(self.quick.visits()[-1][3:], (("above", self.version("low"), home), True))
                end = self.go("do", bound, thing(0))
                if home == "low":
                    self.assertEqual(end[1], worth, name)
                elif name in ("turned", "no elders", "a home that is gone"):
                    self.assertEqual(end[1], "nohome", name)
                for _ in range(3):
                    self.go("go", bound)

    def test_what_a_gate_changes_as_it_is_read(self):
        # The gate's deed takes its own word out of the kind, and puts it again at top.
        self.stage(self.LOOKS["read"])
        self.deed("gate", *out("low", "word"), *put("top", "word", number(7)), push(number(5)), takes=("a",))
        self.deed("set", *put("low", "word", GATE), X, takes=("x",))
        self.world.put("other", "gate", ("gate", "gate", None))
        for _ in range(4):
            self.go("set", NONE)
            self.assertEqual(self.go("look", thing(0)), ("gave", number(5)))
            self.assertEqual(self.go("look", thing(0)), ("gave", number(7)))
            self.assertEqual(self.go("look", thing(2)), ("gave", number(7)))

    def test_what_a_side_changes_ahead_of_the_other(self):
        # The left side tells nothing, but gives the right one's kind another word.
        self.stage([X, ("get", "y"), ("add",)])
        self.deed("left", *put("other", "radd", ("deed", "three")), push(NOT), takes=("a", "b"))
        self.world.put("low", "add", ("deed", "left"))
        self.world.put("other", "radd", ("deed", "two"))
        for _ in range(4):
            self.assertEqual(self.go("look", thing(0), thing(1)), ("gave", number(3)))

    def test_a_loop_that_changes_what_it_reads(self):
        # It reads the word at one place, and puts its sum with one at another kind each time.
        self.stage([push(NONE)])
        self.deed("loop", X, ("read", "word"), push(number(1)), ("add",), ("let", "n"), ("kind", "low"), ("get", "n"),
                  ("write", "word"), ("get", "n"), push(number(9)), ("less",), ("unless", 13), ("jump", 0),
                  ("get", "n"), takes=("x",))
        self.assertEqual(self.go("loop", thing(0)), ("gave", number(9)))
        self.assertEqual([change for change in self.world.log() if change[0] == "put"][-8:],
                         [("put", "low", "word", number(n)) for n in range(2, 10)])
        self.assertEqual(self.quick.hits(), 0)
        # Own words leave the version as it is, but for the first one.
        self.deed("own", X, ("read", "word"), push(number(1)), ("add",), ("let", "n"), X, ("get", "n"),
                  ("write", "word"), ("get", "n"), push(number(19)), ("less",), ("unless", 13), ("jump", 0),
                  ("get", "n"), takes=("x",))
        self.assertEqual(self.go("own", thing(2)), ("gave", number(19)))
        shaped = ("thing", self.version("low"), ("word",))
        self.assertEqual([visit[3:] for visit in self.quick.visits() if visit[1] == 1],
                         [(shaped[:2] + ((),), False)] + [(shaped, False)] * 2 + [(shaped, True)] * 7)

    def test_what_is_changed_behind_its_back(self):
        self.stage(self.LOOKS["read"])
        world = self.world
        changes = [
            (lambda: world.put("top", "word", YES), YES), (lambda: world.put("low", "word", text("a")), text("a")),
            (lambda: world.out("low", "word"), YES), (lambda: world.turn("low", elders=("other",)), number(2)),
            (lambda: world.lay(0, "word", NO), NO), (lambda: world.lift(0, "word"), number(2)),
            (lambda: world.lay(0, "own", NO), number(2)), (lambda: world.turn("low", elders=("mid",)), YES),
            (lambda: world.put("mid", "word", ("deed", "one")), ("bound", "one", "mid", thing(0))),
            (lambda: world.put("mid", "word", ("gate", "one", None)), number(1)),
            (lambda: world.put("mid", "word", ("gate", "yes", "two")), YES), (lambda: world.lay(0, "word", NO), YES),
            (lambda: world.out("mid", "word"), NO),
        ]
        for many in (1, 2, 3, 7):
            for change, worth in changes:
                change()
                for _ in range(many):
                    self.assertEqual(self.go("look", thing(0)), ("gave", worth))
            world.lift(0, "word")
            world.lift(0, "own")


if __name__ == "__main__":
    unittest.main()
