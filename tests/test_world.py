"""Promises [6], [7], [8], and what [2] says of the lists that are handed in and told."""

import unittest

from swiftkin import world as module
from swiftkin.errors import NoChange, NoKind, NoLine, Round
from swiftkin.world import World, world_of
from worlds import GIVE, Case, full_world, snapshot

ONE = ("number", 1)


def diamond():
    """Make a kind aa, two right below it, and one below both."""
    world = World()
    world.kind("aa")
    world.kind("bb", elders=("aa",))
    world.kind("cc", elders=("aa",))
    world.kind("dd", elders=("bb", "cc"))
    return world


def versions(world):
    return [world.version(name) for name in world.kinds()]


class Interface(unittest.TestCase):
    def test_methods_of_the_class_itself(self):
        for name in ("kind turn put out lay lift deed thing kinds line below version picture words own found "
                     "kind_of shape log __len__ __eq__").split():
            self.assertIn(name, vars(World))
        self.assertEqual((World.__module__, world_of.__module__), (module.__name__, module.__name__))

    def test_what_changes_tell(self):
        world = World()
        self.assertIsNone(world.kind("aa"))
        self.assertIsNone(world.kind("bb", elders=("aa",)))
        self.assertIsNone(world.turn("bb", elders=()))
        self.assertIsNone(world.put("aa", "word", ONE))
        self.assertIsNone(world.out("aa", "word"))
        self.assertEqual(world.thing("aa"), 0)
        self.assertEqual(world.thing("bb"), 1)
        self.assertIs(type(world.thing("bb")), int)
        self.assertIsNone(world.lay(0, "word", ONE))
        self.assertIsNone(world.lift(0, "word"))
        self.assertIsNone(world.deed("do", GIVE))

    def test_sorts_of_what_is_told(self):
        world = full_world(kinds=2, words=1, things=1, own=1)
        for told in (world.kinds(), world.line("aa"), world.below("aa"), world.words("aa"), world.own(0), world.log()):
            self.assertIs(type(told), list)
        self.assertIs(type(world.version("aa")), int)
        self.assertIs(type(world.shape(0)), tuple)
        self.assertIs(type(world.kind_of(0)), str)
        self.assertIs(type(world.found("aa", "wa")), tuple)
        self.assertIs(type(world.words("aa")[0]), tuple)
        self.assertIs(type(world.own(0)[0]), tuple)
        kind, rows = world.picture(0)
        self.assertEqual((type(world.picture(0)), type(kind), type(rows)), (tuple, str, list))
        self.assertEqual((type(rows[0]), type(rows[0][0]), type(rows[0][1])), (tuple, str, list))

    def test_a_world_with_nothing(self):
        world = World()
        self.assertEqual((world.kinds(), world.log(), len(world)), ([], [], 0))


class Lines(Case):
    def test_no_elders(self):
        world = full_world(kinds=2)
        self.assertEqual((world.line("aa"), world.line("ab")), (["aa"], ["ab"]))

    def test_a_diamond(self):
        world = diamond()
        self.assertEqual(world.line("bb"), ["bb", "aa"])
        self.assertEqual(world.line("dd"), ["dd", "bb", "cc", "aa"])

    def test_the_row_of_the_elders_is_merged_too(self):
        world = full_world(kinds=3)
        world.kind("low", elders=("ac", "aa", "ab"))
        self.assertEqual(world.line("low"), ["low", "ac", "aa", "ab"])
        # By the lines alone aa might stand ahead of bb; the row behind them says no.
        world = World()
        world.kind("aa")
        world.kind("bb", elders=("aa",))
        with self.assertRaises(NoLine):
            world.kind("cc", elders=("aa", "bb"))
        world.kind("cc", elders=("bb", "aa"))
        self.assertEqual(world.line("cc"), ["cc", "bb", "aa"])

    def test_elders_as_a_list_or_a_tuple(self):
        one, other = diamond(), diamond()
        one.kind("ee", elders=["dd", "aa"])
        other.kind("ee", elders=("dd", "aa"))
        one.turn("ee", elders=["cc"])
        other.turn("ee", elders=("cc",))
        self.assertEqual(one.line("ee"), ["ee", "cc", "aa"])
        self.assertEqual(snapshot(one), snapshot(other))
        self.assertEqual(one.log()[-2:], [("kind", "ee", ("dd", "aa")), ("turn", "ee", ("cc",))])

    def test_below_in_the_order_of_making(self):
        world = diamond()
        self.assertEqual(world.below("aa"), ["aa", "bb", "cc", "dd"])
        self.assertEqual(world.below("cc"), ["cc", "dd"])
        self.assertEqual(world.below("dd"), ["dd"])
        world.kind("ee")
        world.turn("aa", elders=("ee",))
        self.assertEqual(world.below("ee"), ["aa", "bb", "cc", "dd", "ee"])
        self.assertEqual(world.kinds(), ["aa", "bb", "cc", "dd", "ee"])

    def test_a_turn_makes_the_lines_of_all_below(self):
        world = diamond()
        world.kind("ee")
        world.turn("bb", elders=("ee",))
        self.assertEqual(world.line("bb"), ["bb", "ee"])
        self.assertEqual(world.line("dd"), ["dd", "bb", "ee", "cc", "aa"])
        world.turn("cc", elders=())
        self.assertEqual(world.line("dd"), ["dd", "bb", "ee", "cc"])
        self.assertEqual(world.line("aa"), ["aa"])

    def test_a_turn_lets_a_kind_be_an_elder_of_what_was_its_elder(self):
        world = diamond()
        world.turn("dd", elders=())
        world.turn("aa", elders=("dd",))
        self.assertEqual(world.line("bb"), ["bb", "aa", "dd"])
        with self.assertRaises(Round):
            world.turn("dd", elders=("bb",))

    def test_twelve_in_a_row(self):
        world = World()
        world.kind("aa")
        for one, other in zip("abcdefghijk", "bcdefghijkl"):
            world.kind("a" + other, elders=("a" + one,))
        self.assertEqual(world.line("al"), ["a" + sign for sign in "lkjihgfedcba"])
        self.assertEqual(world.below("aa"), ["a" + sign for sign in "abcdefghijkl"])


class Words(Case):
    def test_the_order_in_which_they_came(self):
        world = full_world(kinds=1)
        for word in ("one", "two", "red"):
            world.put("aa", word, ("text", word))
        world.put("aa", "one", ONE)
        self.assertEqual(world.words("aa"), [("one", ONE), ("two", ("text", "two")), ("red", ("text", "red"))])
        world.out("aa", "two")
        world.put("aa", "two", ("none",))
        self.assertEqual(world.words("aa"), [("one", ONE), ("red", ("text", "red")), ("two", ("none",))])

    def test_own_words_likewise(self):
        world = full_world(kinds=1, things=2)
        for word in ("one", "two", "red"):
            world.lay(1, word, ("text", word))
        world.lay(1, "one", ONE)
        self.assertEqual(world.shape(1), ("one", "two", "red"))
        world.lift(1, "one")
        self.assertEqual(world.shape(1), ("two", "red"))
        world.lay(1, "one", ("none",))
        self.assertEqual(world.own(1), [("two", ("text", "two")), ("red", ("text", "red")), ("one", ("none",))])
        self.assertEqual((world.shape(1), world.own(0), world.shape(0)), (("two", "red", "one"), [], ()))

    def test_found_at_the_first_of_the_line(self):
        world = diamond()
        world.put("aa", "word", ("text", "aa"))
        self.assertEqual(world.found("dd", "word"), ("aa", ("text", "aa")))
        world.put("cc", "word", ("text", "cc"))
        self.assertEqual(world.found("dd", "word"), ("cc", ("text", "cc")))
        self.assertEqual(world.found("bb", "word"), ("aa", ("text", "aa")))
        world.put("bb", "word", ("not",))
        self.assertEqual(world.found("dd", "word"), ("bb", ("not",)))
        world.out("bb", "word")
        self.assertEqual(world.found("dd", "word"), ("cc", ("text", "cc")))
        self.assertIsNone(world.found("dd", "other"))

    def test_a_thing_has_no_words_of_its_kind(self):
        world = full_world(kinds=1, words=3, things=1)
        self.assertEqual((world.own(0), world.shape(0), world.kind_of(0)), ([], (), "aa"))


class Versions(Case):
    def test_made_kinds_take_the_next_one(self):
        self.assertEqual(versions(diamond()), [0, 1, 2, 3])

    def test_a_word_put(self):
        world = diamond()
        world.put("cc", "word", ONE)
        self.assertEqual(versions(world), [0, 1, 4, 5])
        world.put("cc", "word", ONE)
        self.assertEqual(versions(world), [0, 1, 6, 7])
        world.put("aa", "word", ONE)
        self.assertEqual(versions(world), [8, 9, 10, 11])

    def test_a_word_taken_out(self):
        world = diamond()
        world.put("bb", "word", ONE)
        world.out("bb", "word")
        self.assertEqual(versions(world), [0, 6, 2, 7])

    def test_a_turn(self):
        world = diamond()
        world.turn("bb", elders=("aa",))
        self.assertEqual(versions(world), [0, 4, 2, 5])
        world.turn("bb", elders=())
        self.assertEqual(versions(world), [0, 6, 2, 7])

    def test_the_order_is_that_of_the_making(self):
        world = World()
        world.kind("low")
        world.kind("mid")
        world.kind("top")
        world.turn("low", elders=("mid",))
        world.turn("mid", elders=("top",))
        self.assertEqual(versions(world), [4, 5, 2])
        world.put("top", "word", ONE)
        self.assertEqual(versions(world), [6, 7, 8])

    def test_things_and_deeds_take_none(self):
        world = diamond()
        world.thing("aa")
        world.lay(0, "word", ONE)
        world.lift(0, "word")
        world.deed("do", GIVE)
        self.assertEqual(versions(world), [0, 1, 2, 3])
        world.kind("ee")
        self.assertEqual(world.version("ee"), 4)

    def test_refused_changes_spend_none(self):
        world = diamond()
        self.refused(Round, world, lambda: world.turn("aa", elders=("dd",)))
        world.kind("ee")
        self.assertEqual(world.version("ee"), 4)

    def test_pictures(self):
        world = World()
        world.kind("aa")
        world.kind("bb", elders=("aa",))
        world.put("aa", "word", ONE)
        world.put("bb", "other", ("not",))
        world.put("bb", "word", ("none",))
        world.out("bb", "other")
        world.turn("bb", elders=())
        told = [world.picture(n) for n in range(8)]
        self.assertEqual(told, [
            ("aa", [("aa", [])]),
            ("bb", [("bb", []), ("aa", [])]),
            ("aa", [("aa", [("word", ONE)])]),
            ("bb", [("bb", []), ("aa", [("word", ONE)])]),
            ("bb", [("bb", [("other", ("not",))]), ("aa", [("word", ONE)])]),
            ("bb", [("bb", [("other", ("not",)), ("word", ("none",))]), ("aa", [("word", ONE)])]),
            ("bb", [("bb", [("word", ("none",))]), ("aa", [("word", ONE)])]),
            ("bb", [("bb", [("word", ("none",))])]),
        ])
        self.assertEqual(versions(world), [2, 7])


    def test_versions_that_were_never_given(self):
        # The document promises nothing of these; the program refuses them.
        world = diamond()
        for version in (-1, 4, 10 ** 20, None, True, False, "0", [], (0,)):
            self.refused(NoKind, world, lambda: world.picture(version))


class Logs(Case):
    def test_each_change(self):
        world = World()
        code = ((("get", "me"), ("give",)), ())
        world.deed("do", code, takes=("me", "you"), worths=(("none",),))
        world.deed("give", GIVE)
        world.kind("aa")
        world.kind("bb", elders=["aa"])
        world.turn("bb", elders=[])
        world.put("bb", "word", ("deed", "do"))
        world.thing("bb")
        world.lay(0, "word", ("thing", 0))
        world.lift(0, "word")
        world.out("bb", "word")
        log = [
            ("deed", "do", code, ("me", "you"), (("none",),)), ("deed", "give", GIVE, (), ()),
            ("kind", "aa", ()), ("kind", "bb", ("aa",)), ("turn", "bb", ()),
            ("put", "bb", "word", ("deed", "do")), ("thing", "bb"), ("lay", 0, "word", ("thing", 0)),
            ("lift", 0, "word"), ("out", "bb", "word"),
        ]
        self.assertEqual(world.log(), log)
        again = world_of(log)
        self.assertEqual(snapshot(again), snapshot(world))
        self.assertEqual((again, again.log()), (world, log))

    def test_none_at_all(self):
        self.assertEqual(snapshot(world_of([])), snapshot(World()))

    def test_the_first_that_cannot_be(self):
        log = full_world(kinds=2, words=2, things=1, own=2, deeds=1).log()
        for number in range(len(log) + 1):
            for wrong in (None, True, 0, "", [], (), ("kind",), ("name", "aa"), ("kind", "zz"), ("put", "aa", "wa"),
                          ("thing", "zz"), list(log[0]), (["kind"], "zz", ()), (None, "zz", ()), log[0] + ((),),
                          ("len",), ("kind", "zz", []), ("kind", "zz", None), ("turn", "aa", []),
                          ("turn", "aa", ["ab"]),
                          ("deed", "zz", GIVE, [], ()), ("deed", "zz", GIVE, (), []), ("deed", "zz", None, (), ()),
                          ("deed", "zz", GIVE, ()), ("out", "aa", "zz"), ("lay", 1, "word", ONE), ("lift", 0, "zz"),
                          ("lay", False, "word", ONE), ("turn", "zz", ()), ("thing", "aa", ()), ("thing",)):
                for behind in ([], [None], log[number:]):
                    with self.assertRaises(NoChange) as caught:
                        world_of(log[:number] + [wrong] + behind)
                    self.assertEqual(caught.exception.number, number)

    def test_a_change_less_each_part_and_with_one_more(self):
        world = full_world(kinds=2, words=2, things=1, own=2, deeds=1)
        world.turn("ab", elders=("aa",))
        world.out("aa", "wa")
        world.lift(0, "oa")
        log = world.log()
        for number, change in enumerate(log):
            for bent in [change[:-1], change[1:], change + change[-1:], change + (None,), change[:1] * len(change)]:
                with self.assertRaises(NoChange) as caught:
                    world_of(log[:number] + [bent] + log[number + 1:])
                self.assertEqual(caught.exception.number, number)

    def test_what_is_no_list(self):
        for wrong in (None, True, 3, "kind"):
            with self.assertRaises(NoChange) as caught:
                world_of(wrong)
            self.assertEqual(caught.exception.number, 0)


class Equal(Case):
    def equal(self, one, other):
        self.assertIs(one == other, True)
        self.assertIs(other == one, True)
        self.assertIs(one != other, False)

    def unequal(self, one, other):
        self.assertIs(one == other, False)
        self.assertIs(other == one, False)
        self.assertIs(one != other, True)

    def test_alike(self):
        self.equal(World(), World())
        self.equal(full_world(2, 3, 4, 5, 6), full_world(2, 3, 4, 5, 6))
        world = diamond()
        self.equal(world, world)

    def test_versions_and_logs_are_left_aside(self):
        one, other = diamond(), diamond()
        one.put("aa", "word", ONE)
        one.out("aa", "word")
        one.turn("bb", elders=())
        one.turn("bb", elders=("aa",))
        self.equal(one, other)
        self.assertNotEqual((one.log(), versions(one)), (other.log(), versions(other)))

    def test_elders_count_only_by_the_lines(self):
        one, other = diamond(), diamond()
        one.kind("ee", elders=("bb",))
        other.kind("ee", elders=("bb", "aa"))
        self.equal(one, other)
        one.kind("ff", elders=("ee", "cc"))
        other.kind("ff", elders=("ee", "cc"))
        self.equal(one, other)

    def test_deeds_in_whatever_order(self):
        one, other = World(), World()
        one.deed("do", GIVE)
        one.deed("give", GIVE, takes=("me",))
        other.deed("give", GIVE, takes=("me",))
        other.deed("do", GIVE)
        self.equal(one, other)

    def test_kinds_in_another_order(self):
        one, other = World(), World()
        one.kind("aa")
        one.kind("bb")
        other.kind("bb")
        other.kind("aa")
        self.unequal(one, other)

    def test_words_in_another_order(self):
        one, other = full_world(kinds=1, words=2, things=1, own=2), full_world(kinds=1, words=2, things=1, own=2)
        one.out("aa", "wa")
        one.put("aa", "wa", ("number", 0))
        self.unequal(one, other)
        other.out("aa", "wa")
        other.put("aa", "wa", ("number", 0))
        self.equal(one, other)
        one.lift(0, "oa")
        one.lay(0, "oa", ("number", 0))
        self.unequal(one, other)

    def test_each_that_is_not_alike(self):
        changes = [
            lambda world: world.kind("new"),
            lambda world: world.put("aa", "new", ONE),
            lambda world: world.put("aa", "wa", ("number", 9)),
            lambda world: world.out("aa", "wa"),
            lambda world: world.thing("aa"),
            lambda world: world.thing("ab"),
            lambda world: world.lay(0, "new", ONE),
            lambda world: world.lay(0, "oa", ("truth", False)),
            lambda world: world.lift(0, "oa"),
            lambda world: world.lay(1, "oa", ("number", 0)),
            lambda world: world.turn("ab", elders=("aa",)),
            lambda world: world.deed("new", GIVE),
            lambda world: world.deed("new", GIVE, takes=("me",)),
            lambda world: world.deed("new", GIVE, takes=("me",), worths=(ONE,)),
            lambda world: world.deed("new", (GIVE[0], ((0, 1, 1, 0),))),
        ]
        made = []
        for change in [lambda world: None] + changes:
            world = full_world(kinds=2, words=2, things=2, own=2, deeds=1)
            change(world)
            made.append(world)
        for one in made:
            for other in made:
                (self.equal if one is other else self.unequal)(one, other)

    def test_what_is_no_world(self):
        for world in (World(), diamond()):
            for other in (None, True, 0, "", [], (), {}, world.log(), object()):
                self.unequal(world, other)

    def test_len(self):
        for many in (0, 1, 7, 60):
            self.assertEqual(len(full_world(kinds=1, things=many)), many)


class Lists(Case):
    """[2]: nothing handed in is kept or changed; each list that is told is a new one."""

    def test_handed_lists(self):
        world = full_world(kinds=3)
        elders = ["aa", "ab"]
        world.kind("new", elders=elders)
        self.assertEqual(elders, ["aa", "ab"])
        before = snapshot(world)
        elders.append("ac")
        elders[0] = "zz"
        self.assertEqual(snapshot(world), before)
        elders = ["ac"]
        world.turn("new", elders=elders)
        self.assertEqual(elders, ["ac"])
        before = snapshot(world)
        elders.clear()
        self.assertEqual(snapshot(world), before)
        log = world.log()
        again = world_of(log)
        self.assertEqual(log, world.log())
        log.clear()
        self.assertEqual(snapshot(again), before)

    def asks(self, world):
        return [world.kinds, world.log, lambda: world.line("low"), lambda: world.below("aa"), lambda: world.words("aa"),
                lambda: world.own(0), lambda: world.picture(world.version("low"))[1],
                lambda: world.picture(world.version("low"))[1][1][1]]

    def test_told_lists(self):
        world = full_world(kinds=1, words=2, things=1, own=2, deeds=1)
        world.kind("low", elders=("aa",))
        before = snapshot(world)
        for ask in self.asks(world):
            told = ask()
            self.assertTrue(told)
            again = list(told)
            told.append(None)
            told[0] = None
            told.reverse()
            self.assertEqual(ask(), again)
            told.clear()
            self.assertEqual(ask(), again)
            self.assertEqual(snapshot(world), before)

    def test_no_two_told_are_one(self):
        world = full_world(kinds=1, words=2, things=1, own=2, deeds=1)
        world.kind("low", elders=("aa",))
        world.kind("lower", elders=("low",))
        told = [ask() for ask in self.asks(world) + self.asks(world)]
        for n in range(6):
            kind, rows = world.picture(n % 3)
            told += [rows] + [words for _, words in rows]
        self.assertEqual(len({id(one) for one in told}), len(told))

    def test_told_lists_stay_as_they_were(self):
        world = full_world(kinds=2, words=2, things=1, own=2)
        told = [world.kinds(), world.log(), world.line("ab"), world.below("aa"), world.words("aa"), world.own(0),
                world.picture(world.version("ab"))]
        before = repr(told)
        world.turn("ab", elders=("aa",))
        world.put("aa", "new", ONE)
        world.out("aa", "wa")
        world.lay(0, "new", ONE)
        world.lift(0, "oa")
        world.kind("new")
        self.assertEqual(repr(told), before)


if __name__ == "__main__":
    unittest.main()
