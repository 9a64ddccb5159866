"""Promises [18], [20], [26], [27]: papers, told and judged, also behind changes that end what they say."""

import random
import unittest

import drawn_code
from drawn import NOT_NAMES, NOT_NUMBERS, NOT_WORTHS
from plains import NONE, NOT, YES, giving, number, push, text, thing
from second_papers import NUMBERS, right_papers, second_of, second_paper, word_of
from swiftkin import papers as module
from swiftkin.errors import KinError, NoWorth
from swiftkin.papers import ended, is_paper, is_special, paper
from swiftkin.world import World, world_of
from worlds import snapshot


def diamond():
    """Kinds top, left and right below it, low below both, and far; a deed me; things of low and far."""
    world = World()
    for name, elders in (("top", ()), ("left", ("top",)), ("right", ("top",)), ("low", ("left", "right")), ("far", ())):
        world.kind(name, elders=elders)
    world.deed("me", giving(("get", "it")), takes=("it",))
    world.thing("low")
    world.thing("far")
    return world


LINE = ["low", "left", "right", "top"]


class Case(unittest.TestCase):
    def setUp(self):
        self.world = diamond()


class Reads(Case):
    def told(self, worth, word, line, at, sort, own):
        before = snapshot(self.world)
        told = paper(self.world, worth, word)
        self.assertEqual(told, (line, at, sort, own))
        self.assertEqual([type(part) for part in told[:1] + told[2:3]], [list, str])
        self.assertIs(is_paper(self.world, worth, word, told), True)
        self.assertEqual(snapshot(self.world), before)

    def test_where_they_are_defined(self):
        for one in (paper, is_paper, is_special, ended):
            self.assertEqual(one.__module__, module.__name__)

    def test_missing(self):
        self.told(thing(0), "word", LINE, None, "missing", ())
        self.told(("kind", "low"), "word", LINE, None, "missing", None)
        # Whether the word missing is there, or is a deed, is not asked.
        self.world.put("low", "missing", ("deed", "me"))
        self.told(thing(0), "word", LINE, None, "missing", ())
        self.told(thing(1), "word", ["far"], None, "missing", ())

    def test_each_sort(self):
        for worth, sort in ((NONE, "worth"), (number(1), "worth"), (("kind", "low"), "worth"), (thing(0), "worth"),
                            (("bound", "me", "low", NONE), "worth"), (("deed", "me"), "deed"),
                            (("gate", "me", None), "gate"), (("gate", "me", "me"), "writer")):
            for at, kind in enumerate(LINE):
                self.setUp()
                self.world.put(kind, "word", worth)
                self.told(thing(0), "word", LINE, at, sort, ())
                self.told(("kind", "low"), "word", LINE, at, "worth", None)
                self.world.lay(0, "red", NONE)
                self.told(thing(0), "word", LINE, at, sort, ("red",))
                self.world.lay(0, "word", NONE)
                self.told(thing(0), "word", LINE, at, "writer" if sort == "writer" else "own", ("red", "word"))
                self.told(("kind", "low"), "word", LINE, at, "worth", None)

    def test_the_first_kind_that_has_the_word(self):
        self.world.put("top", "word", ("deed", "me"))
        self.told(thing(0), "word", LINE, 3, "deed", ())
        self.world.put("right", "word", ("gate", "me", None))
        self.told(thing(0), "word", LINE, 2, "gate", ())
        self.world.put("left", "word", ("gate", "me", "me"))
        self.told(thing(0), "word", LINE, 1, "writer", ())
        self.told(("kind", "right"), "word", ["right", "top"], 0, "worth", None)

    def test_an_own_word_alone(self):
        self.world.lay(0, "word", ("gate", "me", "me"))
        self.told(thing(0), "word", LINE, None, "own", ("word",))

    def test_what_is_no_name(self):
        self.world.put("low", "word", NONE)
        self.world.lay(0, "word", NONE)
        for word in NOT_NAMES:
            self.told(thing(0), word, LINE, None, "missing", ("word",))
            self.told(("kind", "low"), word, LINE, None, "missing", None)

    def test_no_worth(self):
        for worth in NOT_WORTHS + [NONE, NOT, YES, number(0), text("low"), ("deed", "me"), ("gate", "me", None),
                                   ("bound", "me", "low", thing(0)), ("kind", "zz"), ("kind", "me"), ("kind", 0),
                                   ("thing", 2), ("thing", True), ("thing", False), ("thing", "0"), ["thing", 0],
                                   ("thing",), ("thing", 0, 0), ("kind", "low", "low"), ("kind", ["low"]), 0, "low"]:
            for word in ("word", None, []):
                for ask in (lambda: paper(self.world, worth, word), lambda: is_paper(self.world, worth, word, ()),
                            lambda: is_paper(self.world, worth, word, (LINE, None, "missing", ()))):
                    with self.assertRaises(KinError) as caught:
                        ask()
                    self.assertIs(type(caught.exception), NoWorth)

    def test_told_lists_are_the_askers(self):
        one = paper(self.world, thing(0), "word")
        other = paper(self.world, ("kind", "low"), "word")
        self.assertIsNot(one[0], other[0])
        one[0].clear()
        self.assertEqual(other[0], LINE)
        self.assertEqual(self.world.line("low"), LINE)
        self.assertIs(is_paper(self.world, thing(0), "word", one), False)
        self.assertEqual(paper(self.world, thing(0), "word")[0], LINE)

    def test_handed_ones_stay(self):
        told = (list(LINE), None, "missing", ())
        is_paper(self.world, thing(0), "word", told)
        self.assertEqual(told, (LINE, None, "missing", ()))

    def test_bent_at_one_place(self):
        self.world.put("left", "word", ("deed", "me"))
        self.world.lay(0, "red", NONE)
        for worth in (thing(0), ("kind", "low"), thing(1), ("kind", "far"), ("kind", "left")):
            for word in ("word", "red", "zz"):
                told = paper(self.world, worth, word)
                parts = [
                    [[], ["low"], LINE[::-1], LINE + ["far"], LINE[:3], ["left", "top"], ["far"], LINE],
                    [None, 0, 1, 2, 3, 4, -1, True, False],
                    ["gate", "writer", "deed", "worth", "own", "missing", "", "None"],
                    [None, (), ("red",), ("word",), ("red", "word"), ("red", "red")],
                ]
                for at, others in enumerate(parts):
                    for other in others:
                        bent = told[:at] + (other,) + told[at + 1:]
                        self.assertIs(is_paper(self.world, worth, word, bent), repr(bent) == repr(told), bent)

    def test_truths_are_no_places(self):
        self.world.put("low", "word", NONE)
        self.assertIs(is_paper(self.world, thing(0), "word", (LINE, 0, "worth", ())), True)
        self.assertIs(is_paper(self.world, thing(0), "word", (LINE, False, "worth", ())), False)
        self.world.turn("low", elders=("left",))
        self.world.out("low", "word")
        self.world.put("left", "word", NONE)
        self.assertIs(is_paper(self.world, thing(0), "word", (["low", "left", "top"], 1, "worth", ())), True)
        self.assertIs(is_paper(self.world, thing(0), "word", (["low", "left", "top"], True, "worth", ())), False)

    def test_of_other_things(self):
        right = (LINE, None, "missing", ())
        for told in (None, True, 0, "", [], (), right[:3], right + ((),), list(right), [right],
                     (tuple(LINE),) + right[1:], (LINE, None, "missing", []), (LINE, None, ["missing"], ())):
            self.assertIs(is_paper(self.world, thing(0), "word", told), False)

    def test_changes_that_end_what_is_said(self):
        steps = [
            lambda: self.world.put("top", "word", ("deed", "me")),
            lambda: self.world.lay(0, "word", NONE),
            lambda: self.world.lay(0, "red", NONE),
            lambda: self.world.put("right", "word", ("deed", "me")),
            lambda: self.world.put("left", "word", ("gate", "me", "me")),
            lambda: self.world.put("left", "word", ("gate", "me", None)),
            lambda: self.world.lift(0, "word"),
            lambda: self.world.turn("low", elders=("right", "left")),
            lambda: self.world.out("right", "word"),
            lambda: self.world.turn("low", elders=("right",)),
        ]
        for step in steps:
            told = paper(self.world, thing(0), "word")
            self.assertIs(is_paper(self.world, thing(0), "word", told), True)
            step()
            self.assertIs(is_paper(self.world, thing(0), "word", told), False)
            self.assertIs(is_paper(self.world, thing(0), "word", paper(self.world, thing(0), "word")), True)

    def test_changes_that_end_nothing(self):
        self.world.put("left", "word", ("deed", "me"))
        self.world.lay(0, "red", NONE)
        told = paper(self.world, thing(0), "word")
        for step in (lambda: self.world.put("left", "other", NONE),
                     lambda: self.world.put("left", "word", ("deed", "me")),
                     lambda: self.world.put("top", "word", NONE), lambda: self.world.lay(0, "red", YES),
                     lambda: self.world.lay(1, "red", YES), lambda: self.world.thing("low"),
                     lambda: self.world.turn("low", elders=("left", "right")), lambda: self.world.kind("new")):
            step()
            self.assertIs(is_paper(self.world, thing(0), "word", told), True)


# A deed with a row of each kind: its rows are judged whether a way leads to them or not.
ROWS = (
    push(NONE), ("give",), ("read", "word"), ("write", "word"), ("above", "word"), ("call", 0), ("add",), ("less",),
    ("same",), ("size",), ("unless", 0), ("drop", "word"), ("elders", 0), ("jump", 0), ("calm",), ("get", "it"),
    ("let", "it"), ("kind", "low"), ("deed", "me"), ("push", ("text", "word")), ("read", "missing"), ("give",),
    ("size",),
)
READ, WRITE, ABOVE, CALL, ADD, LESS, SAME, SIZE, UNLESS = range(2, 11)


class Specials(Case):
    def setUp(self):
        super().setUp()
        self.world.deed("all", (ROWS, ()))

    def right(self, *special):
        self.judged(True, special)

    def wrong(self, *special):
        self.judged(False, special)

    def judged(self, right, special):
        before = snapshot(self.world), repr(special)
        self.assertIs(is_special(self.world, special), right, special)
        self.assertEqual((snapshot(self.world), repr(special)), before)

    def version(self, kind="low"):
        return self.world.version(kind)

    def test_which_rows_look(self):
        self.world.put("top", "word", NONE)
        for at, row in enumerate(ROWS):
            for n in range(-1, 5):
                for guard in (("word", self.version()), ("thing", self.version(), ("word",)), ("kind", self.version()),
                              ("above", self.version(), "low")):
                    found = self.world.found("low", word_of(row, n) or "word")
                    own = n == 0 and row[0] in ("read", "write", "above")
                    fits = {"read": ["thing", "kind"], "write": ["thing"], "above": ["above"]}.get(row[0], [])
                    fits = fits if own else ["word"]
                    if row == ("read", "missing") and own:
                        # Nothing is found, and the word isn't in the shape.
                        fits = []
                    self.judged(word_of(row, n) is not None and guard[0] in fits, ("all", at, n, guard, found))

    def test_a_read_of_a_thing(self):
        version = self.version()
        for shape in ((), ("red",)):
            self.wrong("all", READ, 0, ("thing", version, shape), None)
        for shape in (("word",), ("red", "word"), ("word", "red")):
            self.right("all", READ, 0, ("thing", version, shape), None)
        for worth in (NONE, ("deed", "me"), ("gate", "me", None), ("bound", "me", "low", NONE), thing(1)):
            self.world.put("left", "word", worth)
            version = self.version()
            for shape in ((), ("red",), ("word",), ("red", "word")):
                self.right("all", READ, 0, ("thing", version, shape), ("left", worth))
                self.wrong("all", READ, 0, ("thing", version, shape), None)
                self.wrong("all", READ, 0, ("thing", self.version("far"), shape), ("left", worth))
                self.wrong("all", READ, 0, ("thing", version, shape), ("top", worth))
                self.wrong("all", READ, 0, ("thing", version, shape), ("left", NOT))
            self.wrong("all", READ, 0, ("thing", version), ("left", worth))

    def test_a_gate_that_writes(self):
        found = ("top", ("gate", "me", "me"))
        self.world.put("top", "word", found[1])
        version = self.version()
        for row in (READ, WRITE):
            self.right("all", row, 0, ("thing", version), found)
            for shape in ((), ("word",)):
                self.wrong("all", row, 0, ("thing", version, shape), found)
        self.right("all", READ, 0, ("kind", version), found)
        self.wrong("all", WRITE, 0, ("kind", version), found)

    def test_a_write_of_a_thing(self):
        for shape in ((), ("red",), ("word",), ("red", "word")):
            self.right("all", WRITE, 0, ("thing", self.version(), shape), None)
        self.wrong("all", WRITE, 0, ("thing", self.version()), None)
        for worth in (NONE, ("deed", "me"), ("gate", "me", None)):
            self.world.put("right", "word", worth)
            for shape in ((), ("red",), ("word",), ("red", "word")):
                self.right("all", WRITE, 0, ("thing", self.version(), shape), ("right", worth))
            self.wrong("all", WRITE, 0, ("thing", self.version()), ("right", worth))
            self.wrong("all", WRITE, 0, ("kind", self.version()), ("right", worth))

    def test_a_read_of_a_kind(self):
        self.wrong("all", READ, 0, ("kind", self.version()), None)
        for worth in (NONE, ("deed", "me"), ("gate", "me", None), ("gate", "me", "me")):
            self.world.put("right", "word", worth)
            self.right("all", READ, 0, ("kind", self.version()), ("right", worth))
            self.right("all", READ, 0, ("kind", self.version("right")), ("right", worth))
            self.wrong("all", READ, 0, ("kind", self.version("left")), ("right", worth))
            self.wrong("all", READ, 0, ("kind", self.version(), ()), ("right", worth))

    def test_above(self):
        self.world.put("left", "word", NONE)
        self.world.put("top", "word", ("gate", "me", "me"))
        version = self.version()
        self.right("all", ABOVE, 0, ("above", version, "low"), ("left", NONE))
        for home in ("left", "right"):
            self.right("all", ABOVE, 0, ("above", version, home), ("top", ("gate", "me", "me")))
            self.wrong("all", ABOVE, 0, ("above", version, home), ("left", NONE))
            self.wrong("all", ABOVE, 0, ("above", version, home), None)
        for home in ("top", "far", "zz", "", None, 0, True, [], ("low",), version):
            for found in (None, ("left", NONE), ("top", ("gate", "me", "me"))):
                self.wrong("all", ABOVE, 0, ("above", version, home), found)
        self.wrong("all", ABOVE, 0, ("above", version), ("left", NONE))
        self.wrong("all", ABOVE, 0, ("above", version, "low", "low"), ("left", NONE))
        self.wrong("all", ABOVE, 0, ("word", version), ("left", NONE))
        self.wrong("all", ABOVE, 0, ("word", version, "low"), ("left", NONE))
        self.wrong("all", READ, 0, ("above", version, "low"), ("left", NONE))

    def test_the_words_of_the_others(self):
        for at, n in ((READ, 1), (CALL, 0), (ADD, 0), (ADD, 1), (ADD, 2), (LESS, 0), (LESS, 1), (LESS, 2), (SAME, 0),
                      (SAME, 1), (SAME, 2), (SIZE, 0), (UNLESS, 0), (UNLESS, 1)):
            self.setUp()
            word = word_of(ROWS[at], n)
            self.right("all", at, n, ("word", self.version()), None)
            self.right("all", at, n, ("word", self.version("far")), None)
            self.world.put("left", "zz", NONE)
            self.right("all", at, n, ("word", self.version()), None)
            for worth in (NONE, ("deed", "me"), ("gate", "me", "me")):
                self.world.put("left", word, worth)
                self.right("all", at, n, ("word", self.version()), ("left", worth))
                self.right("all", at, n, ("word", self.version("left")), ("left", worth))
                self.right("all", at, n, ("word", self.version("right")), None)
                for guard in (("thing", self.version()), ("thing", self.version(), ()), ("kind", self.version()),
                              ("thing", self.version(), (word,)), ("above", self.version(), "low"),
                              ("word", self.version(), ()), ("word",), ("", self.version()), (None, self.version())):
                    self.wrong("all", at, n, guard, ("left", worth))
                self.wrong("all", at, n, ("word", self.version()), None)

    def test_shapes(self):
        eight = tuple("w" + sign for sign in "abcdefgh")
        self.right("all", WRITE, 0, ("thing", self.version(), eight), None)
        self.wrong("all", WRITE, 0, ("thing", self.version(), eight + ("wi",)), None)
        self.wrong("all", WRITE, 0, ("thing", self.version(), ("red", "red")), None)
        self.wrong("all", WRITE, 0, ("thing", self.version(), ("red", "word", "red")), None)
        for name in NOT_NAMES:
            self.wrong("all", WRITE, 0, ("thing", self.version(), (name,)), None)
            self.wrong("all", READ, 0, ("thing", self.version(), ("word", name)), None)
        for shape in (None, True, 0, "", "word", [], ["word"], {"word": 1}):
            self.wrong("all", WRITE, 0, ("thing", self.version(), shape), None)
            self.wrong("all", READ, 0, ("thing", self.version(), shape), None)

    def test_versions_that_are_no_kinds_now(self):
        old = self.version()
        self.right("all", CALL, 0, ("word", old), None)
        self.world.put("top", "red", NONE)
        self.wrong("all", CALL, 0, ("word", old), None)
        self.right("all", CALL, 0, ("word", self.version()), None)
        given = max(self.version(kind) for kind in self.world.kinds())
        for version in (-1, given + 1, 10 ** 20, None, True, False, "0", str(given), [], (given,), [given]):
            self.wrong("all", CALL, 0, ("word", version), None)
        now = [self.version(kind) for kind in self.world.kinds()]
        for version in range(given + 1):
            self.judged(version in now, ("all", CALL, 0, ("word", version), None))

    def test_truths_are_no_numbers(self):
        world = World()
        world.kind("aa")
        world.kind("bb")
        world.deed("all", (ROWS, ()))
        self.world = world
        self.right("all", CALL, 0, ("word", 0), None)
        self.right("all", CALL, 0, ("word", 1), None)
        self.wrong("all", CALL, 0, ("word", False), None)
        self.wrong("all", CALL, 0, ("word", True), None)
        self.wrong("all", CALL, False, ("word", 0), None)
        self.wrong("all", ADD, True, ("word", 0), None)
        self.right("all", ADD, 1, ("word", 0), None)
        world.deed("one", giving(("kind", "aa"), ("call", 0)))
        self.right("one", 1, 0, ("word", 0), None)
        self.wrong("one", True, 0, ("word", 0), None)
        for worth, other in ((YES, ("truth", 1)), (number(1), ("number", True)), (number(0), ("number", False)),
                             (("truth", False), ("truth", 0))):
            world.put("aa", "begin", worth)
            self.right("all", CALL, 0, ("word", world.version("aa")), ("aa", worth))
            self.wrong("all", CALL, 0, ("word", world.version("aa")), ("aa", other))
        world.thing("aa")
        world.thing("aa")
        world.put("aa", "begin", thing(1))
        self.right("all", CALL, 0, ("word", world.version("aa")), ("aa", thing(1)))
        self.wrong("all", CALL, 0, ("word", world.version("aa")), ("aa", ("thing", True)))

    def test_deeds_and_rows_that_are_none(self):
        guard = ("word", self.version())
        for deed in NOT_NAMES + ["zz", "low"]:
            self.wrong(deed, CALL, 0, guard, None)
        for at in NOT_NUMBERS + [len(ROWS), 99, -len(ROWS) + CALL]:
            self.wrong("all", at, 0, guard, None)
        for n in NOT_NUMBERS + [1, 2, 3]:
            self.wrong("all", CALL, n, guard, None)
        for n in (-1, -2, -3, 3, 4):
            self.wrong("all", ADD, n, guard, None)

    def test_of_other_things(self):
        right = ("all", CALL, 0, ("word", self.version()), None)
        self.right(*right)
        for special in (None, True, 0, "", [], (), list(right), right[:4], right + (None,), (right,), [right]):
            self.assertIs(is_special(self.world, special), False)
        for guard in (None, True, 0, "word", [], (), ["word", self.version()], ("word",), ((), ()),
                      (["word"], self.version()), ("word", self.version(), None), ("word", self.version(), (), ())):
            self.wrong(*right[:3], guard, None)
        for found in (True, 0, "", [], (), ("low",), ("low", NONE), (None, None), [None]):
            self.wrong(*right[:4], found)
        self.world.put("low", "begin", NONE)
        guard = ("word", self.version())
        self.right("all", CALL, 0, guard, ("low", NONE))
        for found in (["low", NONE], ("low", ["none"]), ("low", NONE, NONE), ("low", "none"), ("low",), (NONE, "low")):
            self.wrong("all", CALL, 0, guard, found)

    def test_changes_that_end_what_is_said(self):
        self.world.put("left", "word", NONE)
        changes = [
            lambda: self.world.put("low", "zz", NONE), lambda: self.world.put("left", "word", NONE),
            lambda: self.world.put("top", "zz", NONE), lambda: self.world.out("top", "zz"),
            lambda: self.world.turn("low", elders=("right", "left")), lambda: self.world.turn("top", elders=("far",)),
        ]
        for change in changes:
            special = ("all", READ, 0, ("thing", self.version(), ()), ("left", NONE))
            self.right(*special)
            change()
            self.wrong(*special)
            self.right("all", READ, 0, ("thing", self.version(), ()), ("left", NONE))

    def test_changes_that_end_nothing(self):
        self.world.put("left", "word", NONE)
        special = ("all", READ, 0, ("thing", self.version(), ()), ("left", NONE))
        for change in (lambda: self.world.put("far", "word", NONE), lambda: self.world.lay(0, "word", NONE),
                       lambda: self.world.kind("new", elders=("low",)), lambda: self.world.put("new", "word", NONE),
                       lambda: self.world.thing("low"), lambda: self.world.lift(0, "word")):
            change()
            self.right(*special)


class Ended(Case):
    def test_by_which_change(self):
        self.world = World()
        self.world.kind("aa")                     # 0: version 0
        self.world.kind("bb", elders=("aa",))     # 1: version 1
        self.world.kind("cc")                     # 2: version 2
        self.world.thing("aa")                    # 3
        self.world.put("aa", "word", NONE)        # 4: versions 3, 4
        self.world.put("bb", "word", NONE)        # 5: version 5
        self.world.lay(0, "word", NONE)           # 6
        self.world.turn("bb", elders=("cc",))     # 7: version 6
        self.world.out("aa", "word")              # 8: version 7
        self.assertEqual([ended(self.world, n) for n in range(8)], [4, 4, None, 8, 5, 7, None, None])
        for version in (-1, 8, 9, 10 ** 20, None, True, False, "0", [], (), [0]):
            self.assertIsNone(ended(self.world, version))
        with self.assertRaises(KinError):
            self.world.out("aa", "word")
        self.assertIsNone(ended(self.world, 7))

    def test_truths_are_no_versions(self):
        self.world.put("top", "word", NONE)
        self.assertEqual((ended(self.world, 0), ended(self.world, 1)), (8, 8))
        self.assertIsNone(ended(self.world, False))
        self.assertIsNone(ended(self.world, True))


class Drawn(unittest.TestCase):
    WORTHS = [("kind", kind) for kind in drawn_code.KINDS] + [("thing", n) for n in range(7)]
    SHAPES = [(), ("red",), ("blue",), ("red", "blue"), ("add", "begin"), ("red", "red"), ("Red",)]

    def test_papers_of_reads(self):
        for seed in range(60):
            source = random.Random(seed)
            changes, _ = drawn_code.draw_changes(source)
            world, second = world_of(changes), second_of(changes)
            kept = []
            for _ in range(4):
                for worth in self.WORTHS:
                    if worth[0] == "thing" and worth[1] >= len(world):
                        continue
                    for word in drawn_code.WORDS + ["zz"]:
                        told = paper(world, worth, word)
                        self.assertEqual(told, second_paper(second, worth, word))
                        kept.append((worth, word, told))
                self.turn(source, world, second)
                for worth, word, told in source.sample(kept, 60):
                    right = told == second_paper(second, worth, word)
                    self.assertIs(is_paper(world, worth, word, told), right)

    def turn(self, source, world, second):
        """Change both alike."""
        kind, word, things = source.choice(drawn_code.KINDS), source.choice(drawn_code.WORDS), len(world)
        change = source.choice([
            ("put", kind, word, drawn_code.draw_word(source, things)),
            ("lay", source.randrange(things), word, NONE),
            ("turn", "low", source.choice([("left",), ("right", "left"), ("other",), ()])),
            ("turn", "other", source.choice([("top",), ()])),
        ])
        try:
            if change[0] == "turn":
                world.turn(change[1], elders=change[2])
            else:
                getattr(world, change[0])(*change[1:])
        except KinError:
            return
        second.change(change)

    def test_papers_of_special_places(self):
        right_ones = 0
        for seed in range(100, 116):
            source = random.Random(seed)
            changes, _ = drawn_code.draw_changes(source)
            world, second = world_of(changes), second_of(changes)
            old = []
            for _ in range(3):
                for deed in drawn_code.DEEDS:
                    rows = second.deeds[deed][0][0]
                    for at, row in enumerate(rows):
                        for n in range(-1, 4):
                            right = right_papers(second, deed, at, n, self.SHAPES)
                            for special in right:
                                self.assertIs(is_special(world, special), True, special)
                            right_ones += len(right)
                            some = self.bent(source, world, right or [(deed, at, n, ("word", 0), None)])
                            for special in some:
                                self.assertIs(is_special(world, special), self.is_right(second, special), special)
                            old += source.sample(right, min(len(right), 1))
                self.turn(source, world, second)
                for special in old:
                    self.assertIs(is_special(world, special), self.is_right(second, special))
        self.assertGreater(right_ones, 3000)

    def is_right(self, second, special):
        """Tell by the second way whether the paper of a special place is right."""
        deed, at, n = special[:3]
        if deed not in second.deeds or at not in range(len(second.deeds[deed][0][0])):
            return False
        return special in right_papers(second, deed, at, n, self.SHAPES)

    def bent(self, source, world, right):
        """Bend right papers at one place."""
        for special in source.sample(right, min(len(right), 3)):
            deed, at, n, guard, found = special
            kind = source.choice(drawn_code.KINDS)
            yield (source.choice(drawn_code.DEEDS + ["zz"]), at, n, guard, found)
            yield (deed, at + source.choice([-1, 1]), n, guard, found)
            yield (deed, at, n + source.choice([-1, 1]), guard, found)
            yield (deed, at, n, (source.choice(["word", "thing", "kind", "above"]),) + guard[1:], found)
            yield (deed, at, n, guard[:1] + (world.version(kind),) + guard[2:], found)
            yield (deed, at, n, guard[:2], found)
            yield (deed, at, n, guard[:2] + (source.choice(self.SHAPES + drawn_code.KINDS),), found)
            yield (deed, at, n, guard, source.choice([None, (kind, NONE), (kind, ("deed", "da"))]))
            if found is not None:
                yield (deed, at, n, guard, (kind, found[1]))

    def test_each_row_that_looks_is_there(self):
        self.assertEqual(sorted(NUMBERS), sorted(row[0] for row in ROWS[2:11]))


if __name__ == "__main__":
    unittest.main()
