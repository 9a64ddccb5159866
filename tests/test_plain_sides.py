"""Promise [16]: add, less and same by the words of things, step by step, and what [18] says of their looks."""

import unittest

from plains import NONE, NOT, YES, Case, number, push, text, thing

WORDS = (("add", "add", "radd"), ("less", "less", "more"), ("same", "same", "same"))
TOP, LOW, SIDE, TOO = thing(0), thing(1), thing(2), thing(3)


class Sides(Case):
    """A world of kinds top, low below it, and side, with things of each; each side that is asked is put in log."""

    def setUp(self):
        super().setUp()
        world = self.world
        for name, elders in (("top", ()), ("low", ("top",)), ("side", ()), ("log", ())):
            world.kind(name, elders=elders)
        for name in ("top", "low", "side", "top"):
            world.thing(name)

    def side(self, name, gives, *rows):
        """Make a deed that tells the log what it was called with, does these rows, and gives this."""
        self.deed(name, ("kind", "log"), ("get", "one"), ("write", name), ("kind", "log"), ("get", "other"),
                  ("write", name), *rows, push(gives), takes=("one", "other"))

    def asked(self, *sides):
        """The changes that the sides make: (name, one, other) each."""
        return [("put", "log", name, worth) for name, *worths in sides for worth in worths]

    def does(self, row, one, other, worth, *sides, steps=None, looks=None, more=()):
        """This row gives this worth, or falls by this text, the sides being asked in this order."""
        steps = 8 * len(sides) if steps is None else steps
        some = {"takes": ("one", "other"), "arguments": (one, other), "steps": steps, "looks": looks,
                "changes": self.asked(*sides) if more == () else more}
        rows = (("get", "one"), ("get", "other"), (row,))
        if isinstance(worth, str):
            self.row_falls(worth, *rows, **some)
        else:
            self.row_gives(worth, *rows, **some)

    def none(self, row, one, other):
        """What comes where no side told."""
        return {"add": "noadd", "less": "noless"}.get(row, ("truth", one == other))


class OneSide(Sides):
    def test_the_left_one(self):
        for row, word, _ in WORDS:
            self.setUp()
            self.side("la", text("left"))
            self.world.put("top", word, ("deed", "la"))
            for other in (NONE, number(1), text("a"), ("kind", "low"), TOO, TOP):
                self.does(row, TOP, other, text("left"), ("la", TOP, other), looks=1)
            self.does(row, LOW, NONE, text("left"), ("la", LOW, NONE), looks=2)

    def test_the_right_one(self):
        for row, _, turned in WORDS:
            self.setUp()
            self.side("ra", text("right"))
            self.world.put("top", turned, ("deed", "ra"))
            for one in (NONE, number(1), text("a"), ("kind", "low"), ("bound", "ra", "top", TOP)):
                self.does(row, one, TOP, text("right"), ("ra", TOP, one), looks=1)
                self.does(row, one, LOW, text("right"), ("ra", LOW, one), looks=2)
            self.does(row, SIDE, TOP, text("right"), ("ra", TOP, SIDE), looks=2)

    def test_anything_but_not_has_told(self):
        for row, word, turned in WORDS:
            for worth in (NONE, ("truth", False), number(0), text(""), ("text", "not")):
                self.setUp()
                self.side("la", worth)
                self.side("ra", text("right"))
                self.world.put("top", word, ("deed", "la"))
                self.world.put("side", turned, ("deed", "ra"))
                self.does(row, TOP, SIDE, worth, ("la", TOP, SIDE), looks=1)

    def test_not_has_not_told(self):
        for row, word, turned in WORDS:
            self.setUp()
            self.side("la", NOT)
            self.side("ra", text("right"))
            self.world.put("top", word, ("deed", "la"))
            self.world.put("side", turned, ("deed", "ra"))
            self.does(row, TOP, SIDE, text("right"), ("la", TOP, SIDE), ("ra", SIDE, TOP), looks=2)
            self.does(row, TOP, NONE, self.none(row, TOP, NONE), ("la", TOP, NONE), looks=1)
            self.world.put("side", word, ("deed", "la"))
            self.world.put("top", turned, ("deed", "la"))
            self.does(row, SIDE, TOP, self.none(row, SIDE, TOP), ("la", SIDE, TOP), ("la", TOP, SIDE), looks=2)

    def test_no_side_at_all(self):
        for row, _, _ in WORDS:
            self.does(row, TOP, SIDE, self.none(row, TOP, SIDE), looks=2)
            self.does(row, TOP, TOO, self.none(row, TOP, TOO), looks=1)
            self.does(row, TOP, TOP, self.none(row, TOP, TOP), looks=1)
            self.does(row, LOW, NONE, self.none(row, LOW, NONE), looks=2)
            self.does(row, NONE, LOW, self.none(row, NONE, LOW), looks=2)
            self.does(row, NONE, YES, self.none(row, NONE, YES), looks=0)
            self.does(row, ("kind", "top"), ("kind", "top"), self.none(row, 1, 1), looks=0)

    def test_found_but_no_deed(self):
        for row, word, turned in WORDS:
            self.setUp()
            self.side("la", YES)
            for worth in (NONE, ("gate", "la", None), ("bound", "la", "top", NONE), ("kind", "top")):
                self.world.put("top", word, worth)
                self.world.put("side", turned, worth)
                self.does(row, TOP, SIDE, self.none(row, TOP, SIDE), looks=2)
            # An own word is none of the kind's.
            self.world.out("top", word)
            self.world.out("side", turned)
            self.world.lay(0, word, ("deed", "la"))
            self.world.lay(2, turned, ("deed", "la"))
            self.does(row, TOP, SIDE, self.none(row, TOP, SIDE), looks=2)

    def test_the_right_one_of_the_same_kind_is_not_asked(self):
        for row, word, turned in WORDS:
            self.setUp()
            self.side("ra", text("right"))
            self.world.put("top", turned, ("deed", "ra"))
            if row == "same":
                self.side("la", NOT)
                self.world.put("top", word, ("deed", "la"))
                self.does(row, TOP, TOO, ("truth", False), ("la", TOP, TOO), looks=1)
                self.does(row, TOP, TOP, ("truth", True), ("la", TOP, TOP), looks=1)
            else:
                self.does(row, TOP, TOO, self.none(row, TOP, TOO), looks=1)
                self.does(row, TOP, TOP, self.none(row, TOP, TOP), looks=1)

    def test_falls_within_a_side(self):
        self.deed("fall", ("get", "zz"), takes=("one", "other"))
        self.deed("one", ("get", "one"), takes=("one",))
        for row, word, turned in WORDS:
            for name, within, steps, text_ in (("fall", (("fall", 0),), 1, "nolocal"), ("one", (), 0, "takes")):
                self.world.put("top", word, ("deed", name))
                self.row_falls(text_, ("get", "it"), push(NONE), (row,), takes=("it",), arguments=(TOP,), within=within,
                               steps=steps)
                self.world.out("top", word)
                self.world.put("top", turned, ("deed", name))
                self.row_falls(text_, push(NONE), ("get", "it"), (row,), takes=("it",), arguments=(TOP,), within=within,
                               steps=steps)
                self.world.out("top", turned)


class Below(Sides):
    """Things of two kinds, the right one's below the left one's: one of top and one of low."""

    def setUp(self):
        super().setUp()
        self.side("la", text("left"))
        self.side("lb", NOT)
        self.side("ra", text("right"))
        self.side("rb", NOT)

    def put(self, **words):
        """Put words, written kind_word, as deeds, and no others."""
        for kind in ("top", "low", "side"):
            for word, _ in self.world.words(kind):
                self.world.out(kind, word)
        for name, deed in words.items():
            self.world.put(*name.split("_"), ("deed", deed))

    def test_the_right_side_goes_first(self):
        for row, word, turned in WORDS[:2]:
            # Two tables: the turned word in low at once, and in top; no more is looked for.
            self.put(**{"top_" + word: "la", "low_" + turned: "ra"})
            self.does(row, TOP, LOW, text("right"), ("ra", LOW, TOP), looks=2)
            # At another kind: as a deed there, too.
            self.put(**{"top_" + word: "la", "low_" + turned: "ra", "top_" + turned: "la"})
            self.does(row, TOP, LOW, text("right"), ("ra", LOW, TOP), looks=2)

    def test_the_left_side_goes_first_where_both_have_the_same(self):
        for row, word, turned in WORDS[:2]:
            # The turned word in low (two tables) and top, and the word in top.
            self.put(**{"top_" + word: "la", "top_" + turned: "ra"})
            self.does(row, TOP, LOW, text("left"), ("la", TOP, LOW), looks=4)
            # Where the left one has not told, the right one is asked as found ahead: no look more.
            self.put(**{"top_" + word: "lb", "top_" + turned: "ra"})
            self.does(row, TOP, LOW, text("right"), ("lb", TOP, LOW), ("ra", LOW, TOP), looks=4)
            self.put(**{"top_" + turned: "ra"})
            self.does(row, TOP, LOW, text("right"), ("ra", LOW, TOP), looks=4)
            self.put(**{"top_" + word: "lb", "top_" + turned: "rb"})
            self.does(row, TOP, LOW, self.none(row, TOP, LOW), ("lb", TOP, LOW), ("rb", LOW, TOP), looks=4)

    def test_same_is_its_own_turned_word(self):
        self.put(top_same="la")
        self.does("same", TOP, LOW, text("left"), ("la", TOP, LOW), looks=4)
        self.put(top_same="la", low_same="ra")
        self.does("same", TOP, LOW, text("right"), ("ra", LOW, TOP), looks=2)
        self.put(low_same="ra")
        self.does("same", TOP, LOW, text("right"), ("ra", LOW, TOP), looks=2)
        self.put(low_same="rb", top_same="lb")
        self.does("same", TOP, LOW, ("truth", False), ("rb", LOW, TOP), ("lb", TOP, LOW), looks=3)

    def test_no_deed_in_the_left_ones_kind(self):
        for row, word, turned in WORDS[:2]:
            self.put(**{"top_" + word: "la", "low_" + turned: "ra"})
            for worth in (NONE, ("gate", "la", None), ("kind", "low")):
                self.world.put("top", turned, worth)
                self.does(row, TOP, LOW, text("right"), ("ra", LOW, TOP), looks=2)

    def test_no_deed_in_the_right_ones_kind(self):
        for row, word, turned in WORDS[:2]:
            # No look in top for the turned word; and the right one is not asked, nor looked for again.
            self.put(**{"top_" + word: "la"})
            self.does(row, TOP, LOW, text("left"), ("la", TOP, LOW), looks=3)
            self.put(**{"top_" + word: "lb"})
            self.does(row, TOP, LOW, self.none(row, TOP, LOW), ("lb", TOP, LOW), looks=3)
            self.put(**{"top_" + word: "lb", "top_" + turned: "ra"})
            self.world.put("low", turned, NONE)
            self.does(row, TOP, LOW, self.none(row, TOP, LOW), ("lb", TOP, LOW), looks=2)

    def test_the_left_side_behind_the_right_one(self):
        for row, word, turned in WORDS[:2]:
            self.put(**{"top_" + word: "la", "low_" + turned: "rb"})
            self.does(row, TOP, LOW, text("left"), ("rb", LOW, TOP), ("la", TOP, LOW), looks=3)
            self.put(**{"top_" + word: "lb", "low_" + turned: "rb"})
            self.does(row, TOP, LOW, self.none(row, TOP, LOW), ("rb", LOW, TOP), ("lb", TOP, LOW), looks=3)
            self.put(**{"low_" + turned: "rb"})
            self.does(row, TOP, LOW, self.none(row, TOP, LOW), ("rb", LOW, TOP), looks=3)

    def test_the_other_way_around_nothing_is_ahead(self):
        for row, word, turned in WORDS[:2]:
            self.put(**{"top_" + word: "la", "top_" + turned: "ra", "low_" + turned: "rb", "low_" + word: "lb"})
            self.does(row, LOW, TOP, text("right"), ("lb", LOW, TOP), ("ra", TOP, LOW), looks=2)
            self.put(**{"top_" + word: "la", "low_" + turned: "rb"})
            self.does(row, LOW, TOP, text("left"), ("la", LOW, TOP), looks=2)
            self.does(row, SIDE, LOW, self.none(row, SIDE, LOW), ("rb", LOW, SIDE), looks=2)

    def test_things_of_one_kind_below_another(self):
        self.put(low_radd="ra", top_add="lb")
        self.world.thing("low")
        self.does("add", LOW, thing(4), "noadd", ("lb", LOW, thing(4)), looks=2)

    def test_further_below(self):
        self.world.kind("lower", elders=("low", "side"))
        self.world.thing("lower")
        self.put(top_add="la", side_radd="ra")
        # The line is lower, low, top, side.
        self.does("add", TOP, thing(4), text("right"), ("ra", thing(4), TOP), looks=4 + 1)
        self.does("add", SIDE, thing(4), text("right"), ("ra", thing(4), SIDE), looks=4 + 1 + 1)


class WhileItRuns(Sides):
    """What a side that is asked turns is seen by what is looked for then, not by what was found ahead."""

    def test_found_ahead_stays_found(self):
        for row, word, turned in WORDS[:2]:
            self.setUp()
            self.side("la", NOT, ("kind", "top"), ("drop", turned))
            self.side("ra", text("right"))
            self.world.put("top", word, ("deed", "la"))
            self.world.put("top", turned, ("deed", "ra"))
            more = self.asked(("la", TOP, LOW)) + [("out", "top", turned)] + self.asked(("ra", LOW, TOP))
            self.does(row, TOP, LOW, text("right"), steps=18, looks=4, more=more)

    def test_not_found_ahead_stays_not_found(self):
        for row, word, turned in WORDS[:2]:
            self.setUp()
            self.side("ra", text("right"))
            self.side("la", NOT, ("kind", "low"), ("deed", "ra"), ("write", turned))
            self.world.put("top", word, ("deed", "la"))
            more = self.asked(("la", TOP, LOW)) + [("put", "low", turned, ("deed", "ra"))]
            self.does(row, TOP, LOW, self.none(row, TOP, LOW), steps=11, looks=3, more=more)

    def test_looked_for_then(self):
        for row, word, turned in WORDS[:2]:
            self.setUp()
            self.side("ra", text("right"))
            self.side("la", NOT, ("kind", "side"), ("deed", "ra"), ("write", turned))
            self.world.put("top", word, ("deed", "la"))
            more = self.asked(("la", TOP, SIDE)) + [("put", "side", turned, ("deed", "ra"))]
            self.does(row, TOP, SIDE, text("right"), steps=19, looks=2, more=more + self.asked(("ra", SIDE, TOP)))
            self.setUp()
            self.side("ra", text("right"))
            self.side("la", NOT, ("kind", "side"), ("drop", turned))
            self.world.put("top", word, ("deed", "la"))
            self.world.put("side", turned, ("deed", "ra"))
            more = self.asked(("la", TOP, SIDE)) + [("out", "side", turned)]
            self.does(row, TOP, SIDE, self.none(row, TOP, SIDE), steps=10, looks=2, more=more)

    def test_the_left_word_is_looked_for_then(self):
        for row, word, turned in WORDS[:2]:
            self.setUp()
            self.side("la", text("left"))
            self.side("ra", NOT, ("kind", "top"), ("deed", "la"), ("write", word))
            self.world.put("low", turned, ("deed", "ra"))
            more = self.asked(("ra", LOW, TOP)) + [("put", "top", word, ("deed", "la"))] + self.asked(("la", TOP, LOW))
            self.does(row, TOP, LOW, text("left"), steps=19, looks=3, more=more)

    def test_kinds_that_are_turned_apart(self):
        self.side("la", NOT, ("kind", "low"), ("elders", 0))
        self.side("ra", text("right"))
        self.world.put("top", "add", ("deed", "la"))
        self.world.put("top", "radd", ("deed", "ra"))
        more = self.asked(("la", TOP, LOW)) + [("turn", "low", ())] + self.asked(("ra", LOW, TOP))
        self.does("add", TOP, LOW, text("right"), steps=18, looks=4, more=more)


if __name__ == "__main__":
    unittest.main()
