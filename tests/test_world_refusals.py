"""The refusals of [6], [7], [8]: each by itself, any of them due at once, and what they leave."""

import itertools
import unittest

from drawn import NOT_NAMES, NOT_NUMBERS, NOT_WORTHS
from swiftkin.errors import (
    Full, NoCode, NoKind, NoLine, NoName, NoThing, NoWord, NoWorth, Round,
)
from swiftkin.lines import is_ring
from swiftkin.world import World
from worlds import GIVE, Case, full_world


def crossed():
    """A world in which dd of bb and cc has a line, and none of bb, cc where these are crossed."""
    world = World()
    world.kind("aa")
    world.kind("bb")
    world.kind("cc", elders=("aa", "bb"))
    world.kind("dd", elders=("bb", "aa"))
    return world


class Kinds(Case):
    def test_names_that_are_none(self):
        world = full_world(kinds=2)
        for name in NOT_NAMES:
            self.refused(NoName, world, lambda: world.kind(name))
        self.refused(NoName, world, lambda: world.kind("ab"))
        self.refused(NoName, world, lambda: world.kind("ab", elders=("aa",)))

    def test_elders_that_are_none(self):
        world = full_world(kinds=2, deeds=1)
        for elder in NOT_NAMES + ["zz", "da", "new"]:
            for elders in ((elder,), ("aa", elder), (elder, "ab"), [elder], ["aa", elder]):
                self.refused(NoKind, world, lambda: world.kind("new", elders=elders))
                self.refused(NoKind, world, lambda: world.turn("aa", elders=elders))

    def test_no_row_of_elders(self):
        world = full_world(kinds=2)
        for elders in (None, True, 0, 2, "aa", "ab", "", "a"):
            self.refused(NoKind, world, lambda: world.kind("new", elders=elders))
            self.refused(NoKind, world, lambda: world.turn("aa", elders=elders))

    def test_elders_that_stand_twice(self):
        world = full_world(kinds=3)
        for elders in (("aa", "aa"), ("aa", "ab", "aa"), ["ab", "ab", "ab", "ab", "ab"]):
            self.refused(NoKind, world, lambda: world.kind("new", elders=elders))
            self.refused(NoKind, world, lambda: world.turn("ac", elders=elders))

    def test_four_elders_and_five(self):
        world = full_world(kinds=6)
        five = ("aa", "ab", "ac", "ad", "ae")
        self.refused(Full, world, lambda: world.kind("new", elders=five))
        self.refused(Full, world, lambda: world.turn("af", elders=five))
        world.kind("new", elders=five[:4])
        world.turn("af", elders=five[1:])
        self.assertEqual((world.line("new"), world.line("af")), (["new", *five[:4]], ["af", *five[1:]]))

    def test_twelve_kinds_and_thirteen(self):
        world = full_world(kinds=11)
        world.kind("new")
        self.refused(Full, world, lambda: world.kind("newer"))
        world.turn("new", elders=("aa",))
        self.assertEqual(len(world.kinds()), 12)

    def test_no_line_of_a_kind_that_is_made(self):
        world = crossed()
        refusal = self.refused(NoLine, world, lambda: world.kind("ee", elders=("cc", "dd")))
        self.assertEqual(refusal.name, "ee")
        self.assertEqual(refusal.rows, [["cc", "aa", "bb"], ["dd", "bb", "aa"], ["cc", "dd"]])
        self.assertTrue(is_ring(refusal.rows, refusal.ring))
        world.kind("ee", elders=("cc",))

    def test_no_line_by_the_row_of_the_elders(self):
        world = crossed()
        refusal = self.refused(NoLine, world, lambda: world.kind("ee", elders=["aa", "cc"]))
        self.assertEqual((refusal.name, refusal.rows), ("ee", [["aa"], ["cc", "aa", "bb"], ["aa", "cc"]]))
        self.assertTrue(is_ring(refusal.rows, refusal.ring))

    def test_what_a_refusal_holds_is_the_askers(self):
        world = crossed()
        refusal = self.refused(NoLine, world, lambda: world.kind("ee", elders=("cc", "dd")))
        for row in refusal.rows:
            row.clear()
        again = self.refused(NoLine, world, lambda: world.kind("ee", elders=("cc", "dd")))
        self.assertEqual(again.rows, [["cc", "aa", "bb"], ["dd", "bb", "aa"], ["cc", "dd"]])
        lists = again.rows + [again.rows, again.ring]
        self.assertEqual(len({id(one) for one in lists}), len(lists))


class TwoOfAKind(Case):
    """[6]: the first that the document names comes."""

    def test_kind(self):
        for bad, elder, more, full, line in itertools.product((0, 1), repeat=5):
            world = crossed()
            for n in range(8 if full else 0):
                world.kind("x" + "abcdefgh"[n])
            elders = (("cc", "dd") if line else ("aa",)) + (("zz",) if elder else ())
            if more:
                for name in ("pp", "qq", "rr", "ss"):
                    if name not in world.kinds() and not full:
                        world.kind(name)
                elders += ("xa", "xb", "xc", "xd") if full else ("pp", "qq", "rr", "ss")
            for name in (["aa", "", None, []] if bad else ["new"]):
                due = [NoName] * bad + [NoKind] * elder + [Full] * (more or full) + [NoLine] * line
                if due:
                    self.refused(due[0], world, lambda: world.kind(name, elders=elders))
                else:
                    world.kind(name, elders=elders)

    def test_turn(self):
        for bad, elder, more, around, line in itertools.product((0, 1), repeat=5):
            world = crossed()
            for name in ("pp", "qq", "rr", "ss", "to"):
                world.kind(name)
            world.kind("low", elders=("to",))
            elders = (("cc", "dd") if line else ()) + (("zz",) if elder else ())
            elders += ("pp", "qq", "rr", "ss", "aa")[:5 if more else 1] + (("low",) if around else ())
            for name in (["zz", "", None, []] if bad else ["to"]):
                # A name of no kind stands in no line.
                due = [NoKind] * (bad or elder) + [Full] * more + [Round] * around + [NoLine] * line
                if due:
                    self.refused(due[0], world, lambda: world.turn(name, elders=elders))
                else:
                    world.turn(name, elders=elders)


class Turns(Case):
    def test_names_that_are_none(self):
        world = full_world(kinds=2, deeds=1)
        for name in NOT_NAMES + ["zz", "da"]:
            self.refused(NoKind, world, lambda: world.turn(name, elders=()))
            self.refused(NoKind, world, lambda: world.turn(name, elders=("aa",)))

    def test_round(self):
        world = World()
        world.kind("aa")
        world.kind("bb", elders=("aa",))
        world.kind("cc", elders=("bb",))
        world.kind("dd")
        for name, elders in (("aa", ("aa",)), ("aa", ("bb",)), ("aa", ("cc",)), ("bb", ("dd", "cc")),
                             ("cc", ("cc",)), ("bb", ("aa", "bb"))):
            self.refused(Round, world, lambda: world.turn(name, elders=elders))
        world.turn("aa", elders=("dd",))
        self.refused(Round, world, lambda: world.turn("dd", elders=("cc",)))

    def test_no_line_of_the_kind_itself(self):
        world = crossed()
        world.kind("ee")
        refusal = self.refused(NoLine, world, lambda: world.turn("ee", elders=("dd", "cc")))
        self.assertEqual((refusal.name, refusal.rows), ("ee", [["dd", "bb", "aa"], ["cc", "aa", "bb"], ["dd", "cc"]]))
        self.assertTrue(is_ring(refusal.rows, refusal.ring))

    def test_no_line_of_one_below(self):
        world = World()
        world.kind("aa")
        world.kind("bb")
        world.kind("cc", elders=("aa", "bb"))
        world.kind("dd")
        world.kind("ee", elders=("cc", "dd"))
        world.kind("ff", elders=("ee",))
        refusal = self.refused(NoLine, world, lambda: world.turn("dd", elders=("bb", "aa")))
        # The line of dd is the one that it would have; ff gets none by ee alone.
        self.assertEqual(refusal.name, "ee")
        self.assertEqual(refusal.rows, [["cc", "aa", "bb"], ["dd", "bb", "aa"], ["cc", "dd"]])
        self.assertTrue(is_ring(refusal.rows, refusal.ring))

    def test_the_first_made_of_several_though_it_stands_lower(self):
        # ll is made ahead of ee, and turned to be below it: ee gets none, so ll isn't named.
        world = World()
        for name in ("ll", "aa", "bb", "dd"):
            world.kind(name)
        world.kind("cc", elders=("aa", "bb"))
        world.kind("ee", elders=("cc", "dd"))
        world.kind("gg", elders=("dd", "cc"))
        world.turn("ll", elders=("ee",))
        refusal = self.refused(NoLine, world, lambda: world.turn("dd", elders=("bb", "aa")))
        self.assertEqual(refusal.name, "ee")
        self.assertEqual(refusal.rows, [["cc", "aa", "bb"], ["dd", "bb", "aa"], ["cc", "dd"]])

    def test_the_first_made_of_two_in_another_depth(self):
        # gg gets none from two steps down, ee from one; gg is made first.
        world = World()
        for name in ("gg", "aa", "bb", "dd", "mid"):
            world.kind(name)
        world.kind("cc", elders=("aa", "bb"))
        world.turn("mid", elders=("dd",))
        world.turn("gg", elders=("cc", "mid"))
        world.kind("ee", elders=("cc", "dd"))
        refusal = self.refused(NoLine, world, lambda: world.turn("dd", elders=("bb", "aa")))
        self.assertEqual(refusal.name, "gg")
        self.assertEqual(refusal.rows, [["cc", "aa", "bb"], ["mid", "dd", "bb", "aa"], ["cc", "mid"]])
        self.assertTrue(is_ring(refusal.rows, refusal.ring))


class Words(Case):
    def test_put(self):
        for kind, word, worth, full in itertools.product((0, 1), repeat=4):
            world = full_world(kinds=1, words=12 if full else 11, deeds=1)
            due = [NoKind] * kind + [NoName] * word + [NoWorth] * worth + [Full] * full
            for some in itertools.product(
                    NOT_NAMES + ["zz", "da"] if kind else ["aa"], NOT_NAMES if word else ["new"],
                    NOT_WORTHS if worth else [("none",)]):
                if due:
                    self.refused(due[0], world, lambda: world.put(*some))
        world = full_world(kinds=1, words=11)
        world.put("aa", "new", ("none",))
        self.refused(Full, world, lambda: world.put("aa", "newer", ("none",)))
        world.put("aa", "new", ("not",))
        world.put("aa", "wa", ("not",))
        self.assertEqual(len(world.words("aa")), 12)

    def test_worths_of_what_there_is_not(self):
        world = full_world(kinds=2, things=2, deeds=2)
        right = [("kind", "ab"), ("thing", 1), ("deed", "db"), ("gate", "da", "db"), ("gate", "da", None),
                 ("bound", "da", "ab", ("thing", 0)), ("bound", "db", "aa", ("kind", "aa")),
                 ("bound", "db", "aa", ("gate", "da", "da"))]
        wrong = [("kind", "zz"), ("kind", "da"), ("thing", 2), ("thing", 60), ("thing", 10 ** 20), ("deed", "zz"),
                 ("deed", "aa"), ("gate", "zz", None), ("gate", "zz", "da"), ("gate", "da", "zz"), ("gate", "aa", "ab"),
                 ("bound", "zz", "aa", ("none",)), ("bound", "da", "zz", ("none",)), ("bound", "aa", "aa", ("none",)),
                 ("bound", "da", "da", ("none",)), ("bound", "da", "aa", ("thing", 2)),
                 ("bound", "da", "aa", ("kind", "zz")), ("bound", "da", "aa", ("deed", "zz")),
                 ("bound", "da", "aa", ("gate", "da", "zz")), ("bound", "da", "aa", ("gate", "zz", None)),
                 ("bound", "da", "aa", ("bound", "da", "aa", ("none",)))]
        for worth in right:
            world.put("aa", "word", worth)
            world.lay(0, "word", worth)
            self.assertEqual((world.words("aa"), world.own(0)), ([("word", worth)], [("word", worth)]))
        for worth in wrong + NOT_WORTHS:
            self.refused(NoWorth, world, lambda: world.put("aa", "word", worth))
            self.refused(NoWorth, world, lambda: world.lay(0, "word", worth))

    def test_out(self):
        world = full_world(kinds=2, words=2, deeds=1)
        world.kind("low", elders=("aa",))
        for kind in NOT_NAMES + ["zz", "da"]:
            for word in ("wa", "zz", None, []):
                self.refused(NoKind, world, lambda: world.out(kind, word))
        for word in NOT_NAMES + ["zz", "wc"]:
            self.refused(NoWord, world, lambda: world.out("aa", word))
        # A word of an elder is none of the kind's.
        self.refused(NoWord, world, lambda: world.out("low", "wa"))

    def test_what_is_asked_of_what_is_no_kind(self):
        world = full_world(kinds=2, words=2, deeds=1)
        for kind in NOT_NAMES + ["zz", "da"]:
            for ask in (world.line, world.below, world.version, world.words,
                        lambda kind: world.found(kind, "wa"), lambda kind: world.found(kind, [])):
                self.refused(NoKind, world, lambda: ask(kind))

    def test_a_word_that_is_no_name_is_not_found(self):
        world = full_world(kinds=2, words=2)
        for word in NOT_NAMES + ["zz"]:
            self.assertIsNone(world.found("aa", word))


class Things(Case):
    def test_thing(self):
        world = full_world(kinds=1, things=59)
        for kind in NOT_NAMES + ["zz"]:
            self.refused(NoKind, world, lambda: world.thing(kind))
        self.assertEqual(world.thing("aa"), 59)
        self.refused(Full, world, lambda: world.thing("aa"))
        for kind in NOT_NAMES + ["zz"]:
            self.refused(NoKind, world, lambda: world.thing(kind))

    def test_lay(self):
        for thing, word, worth, full in itertools.product((0, 1), repeat=4):
            world = full_world(kinds=1, things=2, own=8 if full else 7)
            due = [NoThing] * thing + [NoName] * word + [NoWorth] * worth + [Full] * full
            for some in itertools.product(
                    NOT_NUMBERS + [2, 60] if thing else [0], NOT_NAMES if word else ["new"],
                    NOT_WORTHS if worth else [("none",)]):
                if due:
                    self.refused(due[0], world, lambda: world.lay(*some))
        world = full_world(kinds=1, things=2, own=7)
        world.lay(0, "new", ("none",))
        self.refused(Full, world, lambda: world.lay(0, "newer", ("none",)))
        world.lay(0, "new", ("not",))
        world.lay(1, "newer", ("not",))
        self.assertEqual((len(world.own(0)), world.shape(1)), (8, ("newer",)))

    def test_lift(self):
        world = full_world(kinds=1, words=1, things=2, own=2)
        for n in NOT_NUMBERS + [2, 60]:
            for word in ("oa", "zz", None, []):
                self.refused(NoThing, world, lambda: world.lift(n, word))
        for word in NOT_NAMES + ["zz", "wa"]:
            self.refused(NoWord, world, lambda: world.lift(0, word))
        self.refused(NoWord, world, lambda: world.lift(1, "oa"))

    def test_what_is_asked_of_what_is_no_thing(self):
        world = full_world(kinds=1, things=2, own=1)
        for n in NOT_NUMBERS + [2, 60]:
            for ask in (world.own, world.kind_of, world.shape):
                self.refused(NoThing, world, lambda: ask(n))

    def test_no_thing_at_all(self):
        world = full_world(kinds=1)
        for n in (0, -1, False):
            self.refused(NoThing, world, lambda: world.own(n))


BAD_CODES = [
    (None, ("bad", 0)), (True, ("bad", 0)), (7, ("bad", 0)), ("", ("bad", 0)), ([], ("bad", 0)), ((), ("bad", 0)),
    (list(GIVE), ("bad", 0)), ((list(GIVE[0]), ()), ("bad", 0)), ((GIVE[0], []), ("bad", 0)),
    (((("push", ("none",)), ["give"]), ()), ("bad", 1)),
    (((("give",),), ()), ("wrong", [[0]])),
]


class Deeds(Case):
    def test_names(self):
        world = full_world(kinds=1, deeds=1)
        for name in NOT_NAMES + ["da"]:
            self.refused(NoName, world, lambda: world.deed(name, GIVE))
        # A kind may have the name of a deed, and the other way around.
        world.deed("aa", GIVE)
        world.kind("da")

    def test_takes(self):
        world = full_world()
        for takes in ([], ["me"], None, True, 0, "", "me", ("me", "me"), ("me", "you", "me"),
                      ("aa", "bb", "cc", "dd", "ee")):
            self.refused(NoName, world, lambda: world.deed("new", GIVE, takes=takes))
        for name in NOT_NAMES:
            self.refused(NoName, world, lambda: world.deed("new", GIVE, takes=(name,)))
            self.refused(NoName, world, lambda: world.deed("new", GIVE, takes=("me", name)))
        world.deed("new", GIVE, takes=("aa", "bb", "cc", "dd"))

    def test_worths(self):
        world = full_world(kinds=1, things=1, deeds=1)
        for worths in ([], [("none",)], None, True, 0, "", "x"):
            self.refused(NoWorth, world, lambda: world.deed("new", GIVE, takes=("me",), worths=worths))
        for worth in NOT_WORTHS + [("kind", "aa"), ("thing", 0), ("deed", "da"), ("gate", "da", None),
                                   ("bound", "da", "aa", ("none",))]:
            self.refused(NoWorth, world, lambda: world.deed("new", GIVE, takes=("me", "you"), worths=(worth,)))
            some = (("none",), worth)
            self.refused(NoWorth, world, lambda: world.deed("new", GIVE, takes=("me", "you"), worths=some))

    def test_more_worths_than_takes(self):
        for many in range(5):
            world = full_world()
            takes = ("aa", "bb", "cc", "dd")[:many]
            worths = (("none",), ("not",), ("truth", True), ("number", 1), ("text", ""))
            self.refused(NoWorth, world, lambda: world.deed("new", GIVE, takes=takes, worths=worths[:many + 1]))
            world.deed("new", GIVE, takes=takes, worths=worths[:many])

    def test_twelve_deeds_and_thirteen(self):
        world = full_world(deeds=11)
        world.deed("new", GIVE)
        self.refused(Full, world, lambda: world.deed("newer", GIVE))

    def test_codes(self):
        world = full_world(deeds=11)
        for code, told in BAD_CODES:
            refusal = self.refused(NoCode, world, lambda: world.deed("new", code))
            self.assertEqual(refusal.told, told)

    def test_several_at_once(self):
        for name, takes, worths, many, full, code in itertools.product((0, 1), repeat=6):
            world = full_world(deeds=12 if full else 11)
            due = [NoName] * (name or takes) + [NoWorth] * (worths or many) + [Full] * full + [NoCode] * code
            some = (("kind", "aa") if worths else ("none",),) + ((("none",), ("none",)) if many else ())
            for bad in (["", None, [], "da"] if name else ["new"]):
                if due:
                    self.refused(due[0], world, lambda: world.deed(
                        bad, BAD_CODES[-1][0] if code else GIVE,
                        takes=("me", "me") if takes else ("me", "you"), worths=some))


if __name__ == "__main__":
    unittest.main()
