"""Promises [9], [12], [14], [15], [17], [18]: each row of code, right and falling."""

import itertools
import unittest

from plains import NO, NONE, NOT, YES, Kin, giving, number, push, text, thing
from swiftkin.plain import Plain

BIG = 10 ** 9


class Rows(Kin):
    """A thing of low, one of other, and deeds: me, two that gives the second that it takes, fall that falls."""

    def setUp(self):
        super().setUp()
        self.world.thing("other")
        self.deed("two", ("get", "that"), takes=("it", "that"))
        self.deed("fall", ("get", "none"), takes=("it", "that"), worths=(NONE,))

    def it(self, worth):
        """What hands this worth to a deed."""
        return {"takes": ("it",), "arguments": (worth,)}


class Simple(Rows):
    def test_push(self):
        for worth in (NONE, NOT, YES, NO, number(-BIG), number(7), text(""), text("\tred\n")):
            self.row_gives(worth, push(worth), looks=0, changes=[])

    def test_kind(self):
        self.row_gives(("kind", "low"), ("kind", "low"), looks=0, changes=[])
        self.row_falls("nokind", ("kind", "zz"), looks=0, changes=[])
        self.row_falls("nokind", ("kind", "me"))

    def test_deed(self):
        self.row_gives(("deed", "me"), ("deed", "me"), looks=0, changes=[])
        self.row_gives(("deed", "do"), ("deed", "do"))
        self.row_falls("nodeed", ("deed", "zz"), looks=0, changes=[])
        self.row_falls("nodeed", ("deed", "top"))

    def test_get_and_let(self):
        self.row_gives(number(1), ("get", "it"), **self.it(number(1)))
        self.row_gives(number(2), push(number(2)), ("let", "it"), ("get", "it"), **self.it(number(1)))
        self.row_gives(number(2), push(number(2)), ("let", "new"), ("get", "new"))
        self.row_gives(number(1), push(number(2)), ("let", "new"), ("get", "it"), **self.it(number(1)))
        self.row_falls("nolocal", ("get", "it"))
        self.row_falls("nolocal", push(NONE), ("let", "new"), ("get", "newer"))

    def test_locals_are_of_one_call(self):
        self.deed("get", ("get", "mine"))
        self.row_falls("nolocal", push(NONE), ("let", "mine"), ("deed", "get"), ("call", 0), steps=1,
                       within=(("get", 0),))

    def test_jump(self):
        code = ((("jump", 2), ("give",), push(YES), ("jump", 1)), ())
        self.world.deed("do", code)
        self.gives(YES, 4, "do", looks=0, changes=[])
        self.world.deed("round", ((("jump", 0),), ()))
        self.ends(("tired", (("round", 0),)), 400, "round")

    def test_calm(self):
        self.row_gives(YES, ("calm",), push(YES), ("calm",), looks=0, changes=[])

    def test_give(self):
        self.row_gives(number(3), push(number(1)), push(number(2)), push(number(3)))

    def test_what_lies_under_stays(self):
        """Each row takes as many as it takes, and no more."""
        self.world.put("low", "word", text("b"))
        under, it = push(text("a")), ("get", "it")
        for rows, gives in (
            ((it, ("read", "word")), text("b")), ((push(text("b")), push(text("c")), ("add",)), text("bc")),
            ((push(text("bc")), ("size",)), number(2)), ((("deed", "me"), push(text("b")), ("call", 1)), text("b")),
            ((push(text("b")), push(text("b")), ("same",)), YES), ((push(text("c")), push(text("b")), ("less",)), NO),
        ):
            steps = 2 if rows[-1][0] == "call" else 0
            self.row_gives(text("a"), under, *rows, ("let", "that"), steps=steps, **self.it(thing(0)))
            self.row_gives(gives, under, *rows, ("let", "that"), ("let", "this"), ("get", "that"), steps=steps,
                           **self.it(thing(0)))
        for rows in ((it, push(NONE), ("write", "word")), (("kind", "low"), ("drop", "word")), (it, ("unless", 3)),
                     (("kind", "low"), ("kind", "other"), ("elders", 1)), (("kind", "low"), ("elders", 0))):
            self.row_gives(text("a"), under, *rows, **self.it(thing(0)))

    def test_stack_order(self):
        self.row_gives(text("ab"), push(text("a")), push(text("b")), ("add",))
        self.row_gives(YES, push(number(1)), push(number(2)), ("less",))
        self.row_gives(number(5), push(number(9)), push(number(5)), ("let", "it"), ("let", "that"), ("get", "it"))


class Unless(Rows):
    def truth(self, worth, true, **more):
        rows = (("get", "it"), ("unless", 4), push(YES), ("give",), push(NO), ("give",))
        self.world.deed("is", (rows, ()), takes=("it",))
        self.gives(YES if true else NO, 4 + more.pop("steps", 0), "is", (worth,), **more)

    def test_what_is_true(self):
        for worth in (YES, number(1), number(-1), number(BIG), text("a"), text(" "), text("none"), text("not"),
                      ("kind", "top"), ("deed", "me"), ("bound", "me", "top", NONE), ("gate", "me", None),
                      ("gate", "me", "two")):
            self.setUp()
            self.truth(worth, True, looks=0)

    def test_what_is_not(self):
        for worth in (NONE, NOT, NO, number(0), text("")):
            self.setUp()
            self.truth(worth, False, looks=0)

    def test_a_thing_with_neither(self):
        self.truth(thing(0), True, looks=4)
        self.setUp()
        self.world.put("top", "truth", YES)
        self.world.put("low", "size", ("gate", "me", None))
        # Both are found, but are no deeds.
        self.truth(thing(0), True, looks=3)

    def test_by_truth(self):
        for worth in (YES, NO):
            self.setUp()
            self.deed("yes", push(worth), takes=("it",))
            self.world.put("top", "truth", ("deed", "yes"))
            self.world.put("low", "size", ("deed", "fall"))
            self.truth(thing(0), worth == YES, steps=2, looks=2)

    def test_by_size(self):
        for worth, true in ((number(0), False), (number(1), True), (number(BIG), True)):
            self.setUp()
            self.deed("many", push(worth), takes=("it",))
            self.world.put("low", "size", ("deed", "many"))
            self.truth(thing(0), true, steps=2, looks=3)

    def test_an_own_word_is_none_of_the_kind(self):
        self.world.lay(0, "truth", ("deed", "fall"))
        self.truth(thing(0), True, looks=4)

    def test_the_thing_is_handed_to_it(self):
        self.world.put("top", "truth", ("deed", "me"))
        self.row_falls("badtruth", ("get", "it"), ("unless", 2), steps=2, looks=2, **self.it(thing(0)))

    def test_badtruth(self):
        for worth in (NONE, NOT, number(1), text("a")):
            self.setUp()
            self.deed("odd", push(worth), takes=("it",))
            self.world.put("low", "truth", ("deed", "odd"))
            self.world.put("low", "size", ("deed", "me"))
            self.row_falls("badtruth", ("get", "it"), ("unless", 2), steps=2, looks=1, **self.it(thing(0)))

    def test_badsize(self):
        for worth in (NONE, NOT, YES, text("a"), number(-1)):
            self.setUp()
            self.deed("odd", push(worth), takes=("it",))
            self.world.put("low", "size", ("deed", "odd"))
            self.row_falls("badsize", ("get", "it"), ("unless", 2), steps=2, looks=3, **self.it(thing(0)))

    def test_falls_within(self):
        self.world.put("low", "truth", ("deed", "fall"))
        self.row_falls("nolocal", ("get", "it"), ("unless", 2), steps=1, looks=1, within=(("fall", 0),),
                       **self.it(thing(0)))
        self.world.put("low", "truth", ("deed", "two"))
        self.row_falls("takes", ("get", "it"), ("unless", 2), looks=1, **self.it(thing(0)))


class Size(Rows):
    def test_of_a_text(self):
        for some in ("", "red", "x" * 20):
            self.row_gives(number(len(some)), push(text(some)), ("size",), looks=0)

    def test_of_a_thing(self):
        for n in (0, 1, BIG):
            self.setUp()
            self.deed("many", push(number(n)), takes=("it",))
            self.world.put("top", "size", ("deed", "many"))
            self.row_gives(number(n), ("get", "it"), ("size",), steps=2, looks=2, **self.it(thing(0)))

    def test_nosize(self):
        for worth in (NONE, NOT, YES, number(3), ("kind", "low"), ("deed", "me"), ("gate", "me", None),
                      ("bound", "me", "top", thing(0))):
            self.row_falls("nosize", ("get", "it"), ("size",), looks=0, **self.it(worth))
        self.row_falls("nosize", ("get", "it"), ("size",), looks=2, **self.it(thing(0)))
        # Of a kind, or found as no deed, it is none.
        self.world.put("low", "size", ("gate", "me", None))
        self.world.lay(0, "size", number(1))
        self.row_falls("nosize", ("get", "it"), ("size",), looks=1, **self.it(thing(0)))
        self.row_falls("nosize", ("get", "it"), ("size",), looks=0, **self.it(("kind", "low")))

    def test_badsize(self):
        for worth in (NONE, NOT, YES, text("a"), number(-1), number(-BIG)):
            self.setUp()
            self.deed("odd", push(worth), takes=("it",))
            self.world.put("top", "size", ("deed", "odd"))
            self.row_falls("badsize", ("get", "it"), ("size",), steps=2, looks=2, **self.it(thing(0)))

    def test_falls_within(self):
        self.world.put("low", "size", ("deed", "fall"))
        self.row_falls("nolocal", ("get", "it"), ("size",), steps=1, within=(("fall", 0),), **self.it(thing(0)))
        self.world.put("low", "size", ("deed", "two"))
        self.row_falls("takes", ("get", "it"), ("size",), looks=1, **self.it(thing(0)))


class Reads(Rows):
    def read(self, worth, given, **more):
        self.row_gives(worth, ("get", "it"), ("read", "word"), **self.it(given), **more)

    def no_read(self, word, given, **more):
        self.row_falls(word, ("get", "it"), ("read", "word"), **self.it(given), **more)

    def test_of_a_kind_as_it_is(self):
        for worth in (NONE, number(1), ("kind", "low"), thing(1), ("deed", "me"), ("gate", "me", None),
                      ("gate", "me", "two"), ("bound", "me", "top", NONE)):
            self.world.put("top", "word", worth)
            self.read(worth, ("kind", "low"), looks=2, changes=[])
            self.read(worth, ("kind", "top"), looks=1)
        self.no_read("noword", ("kind", "other"), looks=1)
        # Missing is for things alone.
        self.world.put("other", "missing", ("deed", "two"))
        self.no_read("noword", ("kind", "other"), looks=1)

    def test_of_other_worths(self):
        for worth in (NONE, NOT, YES, number(1), text("word"), ("deed", "me"), ("gate", "me", "two"),
                      ("bound", "me", "top", thing(0))):
            self.no_read("noword", worth, looks=0)

    def test_a_worth_of_the_kind(self):
        for worth in (NONE, number(1), ("kind", "low"), thing(1), ("bound", "me", "top", NONE)):
            self.world.put("top", "word", worth)
            self.read(worth, thing(0), looks=3, changes=[])
            self.world.put("low", "word", worth)
            self.read(worth, thing(0), looks=2)
            self.world.out("low", "word")

    def test_a_deed_is_bound(self):
        self.world.put("top", "word", ("deed", "me"))
        self.read(("bound", "me", "top", thing(0)), thing(0), looks=3)
        self.world.put("low", "word", ("deed", "two"))
        self.read(("bound", "two", "low", thing(0)), thing(0), looks=2)

    def test_an_own_word_as_it_is(self):
        for worth in (NONE, ("deed", "me"), ("gate", "me", None), ("gate", "me", "two"), ("kind", "top")):
            self.world.lay(0, "word", worth)
            self.read(worth, thing(0), looks=3)
            for other in (number(1), ("deed", "two"), ("gate", "two", None)):
                self.world.put("low", "word", other)
                self.read(worth, thing(0), looks=2)
            self.world.out("low", "word")

    def test_a_gate(self):
        self.world.put("top", "word", ("gate", "me", None))
        self.read(thing(0), thing(0), steps=2, looks=3)
        self.world.lay(0, "word", number(1))
        self.read(number(1), thing(0), looks=3)

    def test_a_gate_that_writes_is_ahead_of_own_words(self):
        self.world.put("top", "word", ("gate", "me", "two"))
        self.read(thing(0), thing(0), steps=2, looks=2)
        self.world.lay(0, "word", number(1))
        self.read(thing(0), thing(0), steps=2, looks=2)

    def test_missing(self):
        self.world.put("top", "missing", ("deed", "two"))
        self.read(text("word"), thing(0), steps=2, looks=5)
        self.world.put("low", "missing", ("deed", "me"))
        self.no_read("takes", thing(0), looks=4)
        self.deed("first", ("get", "it"), takes=("it", "that"))
        self.world.put("low", "missing", ("deed", "first"))
        self.read(thing(0), thing(0), steps=2, looks=4)

    def test_missing_is_not_asked_for_what_is_there(self):
        self.world.put("low", "missing", ("deed", "two"))
        self.world.lay(0, "word", NONE)
        self.read(NONE, thing(0), looks=3)
        self.world.lift(0, "word")
        self.world.put("low", "word", NOT)
        self.read(NOT, thing(0), looks=2)

    def test_missing_that_is_no_deed(self):
        for worth in (NONE, ("gate", "two", None), ("bound", "me", "low", NONE), ("kind", "low")):
            self.world.put("low", "missing", worth)
            self.no_read("noword", thing(0), looks=4)
        self.world.lay(0, "missing", ("deed", "two"))
        self.no_read("noword", thing(0), looks=4)

    def test_the_word_missing_itself(self):
        self.row_falls("noword", ("get", "it"), ("read", "missing"), looks=5, **self.it(thing(0)))
        self.world.put("low", "missing", ("deed", "two"))
        self.row_gives(("bound", "two", "low", thing(0)), ("get", "it"), ("read", "missing"), looks=2,
                       **self.it(thing(0)))

    def test_noword(self):
        self.no_read("noword", thing(0), looks=5)
        self.no_read("noword", thing(1), looks=3)

    def test_falls_within(self):
        self.world.put("low", "word", ("gate", "fall", None))
        self.no_read("nolocal", thing(0), steps=1, within=(("fall", 0),))
        self.world.put("low", "word", ("gate", "two", None))
        self.no_read("takes", thing(0), looks=2)
        self.world.put("low", "word", ("gate", "two", "me"))
        self.no_read("takes", thing(0), looks=1)
        self.world.out("low", "word")
        self.world.put("low", "missing", ("deed", "fall"))
        self.no_read("nolocal", thing(0), steps=1, within=(("fall", 0),))

    def test_what_a_gate_gives_is_read(self):
        self.deed("size", ("get", "it"), ("read", "len"), takes=("it",))
        self.world.lay(0, "len", number(4))
        self.world.put("top", "word", ("gate", "size", None))
        self.read(number(4), thing(0), steps=3, looks=6)


class Aboves(Rows):
    """Above in a deed found in the kind mid, whose line is mid, then top; low stands ahead of it."""

    def setUp(self):
        super().setUp()
        self.world.kind("mid", elders=("top",))
        self.world.turn("low", elders=("mid",))
        self.deed("up", ("get", "it"), ("above", "word"), takes=("it",))
        self.world.put("mid", "word", ("deed", "up"))
        self.rows = (("get", "it"), ("read", "word"), ("call", 0))

    def above(self, worth, given=thing(0), **more):
        self.row_gives(worth, *self.rows, **self.it(given), **more)

    def no_above(self, word, given=thing(0), **more):
        self.row_falls(word, *self.rows, **self.it(given), within=(("up", 1),), steps=2, **more)

    def test_a_worth(self):
        self.world.put("top", "word", number(1))
        # Two tables and the own one for the read, one for above.
        self.above(number(1), steps=3, looks=4, changes=[])

    def test_a_deed_is_bound_there(self):
        self.world.put("top", "word", ("deed", "me"))
        self.above(("bound", "me", "top", thing(0)), steps=3, looks=4)

    def test_gates_are_read(self):
        for gate in (("gate", "me", None), ("gate", "me", "two")):
            self.world.put("top", "word", gate)
            self.above(thing(0), steps=5, looks=4)

    def test_own_words_are_left_aside(self):
        self.world.put("top", "word", number(1))
        self.world.put("mid", "go", ("deed", "up"))
        self.world.lay(0, "word", number(2))
        self.row_gives(number(1), ("get", "it"), ("read", "go"), ("call", 0), steps=3, **self.it(thing(0)))
        self.row_gives(number(2), ("get", "it"), ("read", "word"), **self.it(thing(0)))

    def test_missing_is_left_aside(self):
        self.world.put("low", "missing", ("deed", "two"))
        self.world.put("top", "missing", ("deed", "two"))
        self.no_above("noword", looks=4)

    def test_noword(self):
        self.no_above("noword", looks=4)
        self.world.kind("upper")
        self.world.turn("top", elders=("upper",))
        self.no_above("noword", looks=5)
        self.world.put("upper", "word", NONE)
        self.above(NONE, steps=3, looks=5)

    def test_what_stands_ahead_of_the_home_is_left_aside(self):
        self.world.put("low", "word", number(1))
        self.world.put("low", "go", ("gate", "up", None))
        self.world.put("mid", "go", ("gate", "up", None))
        self.row_gives(("bound", "up", "mid", thing(0)), ("get", "it"), ("read", "go"), steps=3, looks=3,
                       **self.it(thing(0)))
        self.world.out("low", "go")
        self.row_falls("noword", ("get", "it"), ("read", "go"), steps=2, within=(("up", 1),), looks=4,
                       **self.it(thing(0)))

    def test_nohome_of_a_run(self):
        self.falls("nohome", (("up", 1),), 2, "up", (thing(0),), looks=0)

    def test_nohome_of_a_deed_that_was_pushed_or_read_off_a_kind(self):
        self.row_falls("nohome", ("deed", "up"), ("get", "it"), ("call", 1), steps=2, within=(("up", 1),), looks=0,
                       **self.it(thing(0)))
        self.row_falls("nohome", ("kind", "low"), ("read", "word"), ("get", "it"), ("call", 1), steps=2,
                       within=(("up", 1),), looks=2, **self.it(thing(0)))
        # Nor has an own word a home.
        self.world.lay(0, "word", ("deed", "up"))
        self.row_falls("nohome", ("get", "it"), ("read", "word"), ("get", "it"), ("call", 1), steps=2,
                       within=(("up", 1),), looks=3, **self.it(thing(0)))

    def test_nohome_of_what_is_no_thing(self):
        self.deed("none", push(NONE), ("above", "word"), takes=("it",))
        self.deed("kind", ("kind", "low"), ("above", "word"), takes=("it",))
        for name in ("none", "kind"):
            self.world.put("mid", "word", ("deed", name))
            self.row_falls("nohome", *self.rows, **self.it(thing(0)), steps=2, within=((name, 1),), looks=3)

    def test_nohome_where_the_home_is_not_in_the_line(self):
        self.deed("far", ("kind", "other"), ("call", 0), ("above", "word"), takes=("it",))
        self.world.put("mid", "word", ("deed", "far"))
        self.row_falls("nohome", *self.rows, **self.it(thing(0)), steps=3, within=(("far", 2),), looks=4)
        self.world.thing("top")
        self.deed("upper", ("get", "that"), ("above", "word"), takes=("it", "that"))
        self.world.put("mid", "word", ("deed", "upper"))
        self.row_falls("nohome", ("get", "it"), ("read", "word"), ("get", "that"), ("call", 1),
                       takes=("it", "that"), arguments=(thing(0), thing(2)), steps=2, within=(("upper", 1),))

    def test_the_home_that_a_bound_one_tells(self):
        self.world.put("top", "word", number(1))
        for home, worth in (("low", ("bound", "up", "mid", thing(0))), ("mid", number(1))):
            self.row_gives(worth, ("get", "it"), ("call", 0), steps=3, **self.it(("bound", "up", home, thing(0))))
        self.row_falls("noword", ("get", "it"), ("call", 0), steps=2, within=(("up", 1),),
                       **self.it(("bound", "up", "top", thing(0))))
        self.row_falls("nohome", ("get", "it"), ("call", 0), steps=2, within=(("up", 1),), looks=0,
                       **self.it(("bound", "up", "other", thing(0))))

    def test_the_line_as_it_is_now(self):
        self.deed("turn", ("kind", "low"), ("kind", "top"), ("elders", 1), ("get", "it"), ("above", "word"),
                  takes=("it",))
        self.world.put("mid", "word", ("deed", "turn"))
        self.row_falls("nohome", *self.rows, **self.it(thing(0)), steps=5, within=(("turn", 4),), looks=3,
                       changes=[("turn", "low", ("top",))])

    def test_of_each_way_to_be_found_by_a_word(self):
        """What is found by its word in mid has mid for its home: a gate, begin, missing, operators."""
        self.world.put("top", "word", number(5))
        self.deed("upa", ("get", "it"), ("above", "word"), takes=("it", "that"), worths=(NONE,))
        deed, it = ("deed", "upa"), ("get", "it")
        for word, worth, rows in (
            ("go", deed, (it, ("read", "go"), ("call", 0))),
            ("missing", deed, (it, ("read", "go"))),
            ("go", ("gate", "upa", None), (it, ("read", "go"))),
            ("go", ("gate", "upa", "me"), (it, ("read", "go"))),
            ("add", deed, (it, push(NONE), ("add",))),
            ("radd", deed, (push(NONE), it, ("add",))),
            ("less", deed, (it, push(NONE), ("less",))),
            ("more", deed, (push(NONE), it, ("less",))),
            ("same", deed, (it, push(NONE), ("same",))),
            ("same", deed, (push(NONE), it, ("same",))),
            ("size", deed, (it, ("size",))),
        ):
            self.put_alone(word, worth)
            self.row_gives(number(5), *rows, steps=3, **self.it(thing(0)))

    def test_of_what_is_found_but_dropped(self):
        """These fall where there is no home."""
        self.world.put("top", "word", YES)
        self.deed("upa", ("get", "it"), ("above", "word"), takes=("it", "that"), worths=(NONE,))
        self.put_alone("truth", ("deed", "upa"))
        self.row_gives(NOT, ("get", "it"), ("unless", 0), push(NOT), steps=3, **self.it(thing(0)))
        self.put_alone("begin", ("deed", "upa"))
        self.row_gives(thing(2), ("kind", "low"), ("call", 0), steps=3)
        self.put_alone("go", ("gate", "me", "upa"))
        self.row_gives(NOT, ("get", "it"), push(NONE), ("write", "go"), push(NOT), steps=3, **self.it(thing(0)))

    def put_alone(self, word, worth):
        """Put this in mid, and no other word."""
        for other, _ in self.world.words("mid"):
            self.world.out("mid", other)
        self.world.put("mid", word, worth)


class Writes(Rows):
    def write(self, given, looks, changes, steps=0, worth=number(7)):
        rows = (("get", "it"), push(worth), ("write", "word"), push(NONE))
        self.row_gives(NONE, *rows, steps=steps, looks=looks, changes=changes, **self.it(given))

    def no_write(self, word, given, **more):
        self.row_falls(word, ("get", "it"), push(number(7)), ("write", "word"), **self.it(given), **more)

    def test_of_a_thing(self):
        self.write(thing(0), 3, [("lay", 0, "word", number(7))])
        self.world.lay(0, "word", NONE)
        self.write(thing(0), 3, [("lay", 0, "word", number(7))])
        for worth in (number(1), ("deed", "me"), ("gate", "me", None)):
            self.world.put("low", "word", worth)
            self.write(thing(0), 2, [("lay", 0, "word", number(7))])

    def test_the_upper_one_is_written(self):
        self.row_gives(NONE, push(text("x")), ("get", "it"), push(NOT), ("write", "word"), push(NONE), looks=3,
                       changes=[("lay", 0, "word", NOT)], **self.it(thing(0)))

    def test_each_worth_may_be_written(self):
        for worth in (NONE, NOT, thing(1), ("kind", "top"), ("deed", "me"), ("gate", "me", "two"),
                      ("bound", "me", "top", thing(0))):
            self.row_gives(NONE, ("get", "it"), ("get", "that"), ("write", "word"), push(NONE),
                           takes=("it", "that"), arguments=(thing(0), worth), changes=[("lay", 0, "word", worth)])
            self.row_gives(NONE, ("get", "it"), ("get", "that"), ("write", "word"), push(NONE),
                           takes=("it", "that"), arguments=(("kind", "low"), worth),
                           changes=[("put", "low", "word", worth)])

    def test_by_a_gate_that_writes(self):
        self.deed("set", ("get", "it"), ("get", "that"), ("write", "held"), push(YES), takes=("it", "that"))
        self.world.put("top", "word", ("gate", "me", "set"))
        # Two tables for the gate; two and the own one for what its deed writes.
        self.write(thing(0), 5, [("lay", 0, "held", number(7))], steps=5)
        # What it gives is dropped, and an own word is neither looked for nor laid.
        self.world.lay(0, "word", NONE)
        self.write(thing(0), 5, [("lay", 0, "held", number(7))], steps=5)

    def test_of_a_kind(self):
        self.write(("kind", "low"), 0, [("put", "low", "word", number(7))])
        self.world.put("top", "word", ("gate", "me", "two"))
        self.write(("kind", "top"), 0, [("put", "top", "word", number(7))])
        self.write(("kind", "low"), 0, [("put", "low", "word", number(7))])

    def test_of_other_worths(self):
        for worth in (NONE, NOT, YES, number(1), text("word"), ("deed", "me"), ("gate", "me", "two"),
                      ("bound", "me", "top", thing(0))):
            self.no_write("noword", worth, looks=0, changes=[])

    def test_full(self):
        for n in range(8):
            self.world.lay(0, "w" + "abcdefgh"[n], NONE)
        self.no_write("full", thing(0), looks=3, changes=[])
        self.world.lift(0, "wa")
        self.world.lay(0, "word", NONE)
        self.write(thing(0), 3, [("lay", 0, "word", number(7))])
        for n in range(12):
            self.world.put("low", "w" + "abcdefghijkl"[n], NONE)
        self.no_write("full", ("kind", "low"), looks=0, changes=[])
        self.world.out("low", "wa")
        self.world.put("low", "word", NONE)
        self.write(("kind", "low"), 0, [("put", "low", "word", number(7))])

    def test_falls_within(self):
        self.world.put("low", "word", ("gate", "me", "fall"))
        self.no_write("nolocal", thing(0), steps=1, within=(("fall", 0),), looks=1)
        self.world.put("low", "word", ("gate", "two", "me"))
        self.no_write("takes", thing(0), looks=1, changes=[])


class Drops(Rows):
    def drop(self, given, looks, changes):
        self.row_gives(NONE, ("get", "it"), ("drop", "word"), push(NONE), looks=looks, changes=changes,
                       **self.it(given))

    def no_drop(self, word, given, **more):
        self.row_falls(word, ("get", "it"), ("drop", "word"), changes=[], **self.it(given), **more)

    def test_of_a_thing(self):
        self.world.lay(0, "word", NONE)
        self.drop(thing(0), 2, [("lift", 0, "word")])
        for worth in (NONE, ("deed", "me"), ("gate", "me", None)):
            self.world.put("low", "word", worth)
            self.drop(thing(0), 1, [("lift", 0, "word")])

    def test_noword_of_a_thing(self):
        self.no_drop("noword", thing(0), looks=2)
        self.world.put("low", "word", NONE)
        self.no_drop("noword", thing(0), looks=1)

    def test_shut(self):
        self.world.put("top", "word", ("gate", "me", "two"))
        self.no_drop("shut", thing(0), looks=2)
        self.world.lay(0, "word", NONE)
        self.no_drop("shut", thing(0), looks=2)

    def test_of_a_kind(self):
        self.world.put("low", "word", ("gate", "me", "two"))
        self.world.put("top", "other", NONE)
        self.drop(("kind", "low"), 0, [("out", "low", "word")])
        self.no_drop("noword", ("kind", "top"), looks=0)
        self.world.put("top", "word", NONE)
        self.world.out("low", "word")
        self.no_drop("noword", ("kind", "low"), looks=0)

    def test_of_other_worths(self):
        for worth in (NONE, NOT, YES, number(1), text("word"), ("deed", "me"), ("gate", "me", "two"),
                      ("bound", "me", "top", thing(0))):
            self.no_drop("noword", worth, looks=0)


class Elders(Rows):
    def kinds(self, *names):
        return tuple(("kind", name) for name in names)

    def test_turned(self):
        for elders in ((), ("other",), ("other", "top"), ("top", "other")):
            self.row_gives(NONE, *self.kinds("low", *elders), ("elders", len(elders)), push(NONE), looks=0,
                           changes=[("turn", "low", elders)])

    def test_four_elders(self):
        for name in ("aa", "bb", "cc"):
            self.world.kind(name)
        some = ("aa", "bb", "cc", "top")
        self.row_gives(NONE, *self.kinds("other", *some), ("elders", 4), push(NONE), changes=[("turn", "other", some)])

    def test_nokind(self):
        for worth in (NONE, NOT, YES, number(0), text("low"), thing(0), ("deed", "me"), ("gate", "me", None),
                      ("bound", "me", "low", ("kind", "low"))):
            it = ("get", "it")
            for rows in ((it, ("elders", 0)), (it, *self.kinds("top"), ("elders", 1)),
                         (*self.kinds("low"), it, ("elders", 1)), (*self.kinds("low", "top"), it, ("elders", 2))):
                self.row_falls("nokind", *rows, changes=[], looks=0, **self.it(worth))

    def test_nokind_of_one_that_stands_twice(self):
        self.row_falls("nokind", *self.kinds("low", "other", "other"), ("elders", 2), changes=[])
        self.row_falls("nokind", *self.kinds("top", "low", "low"), ("elders", 2), changes=[])

    def test_round(self):
        self.row_falls("round", *self.kinds("top", "low"), ("elders", 1), changes=[])
        self.row_falls("round", *self.kinds("low", "low"), ("elders", 1), changes=[])
        self.row_falls("round", *self.kinds("top", "other", "low"), ("elders", 2), changes=[])

    def test_noline(self):
        self.row_falls("noline", *self.kinds("other", "top", "low"), ("elders", 2), changes=[])

    def test_what_is_turned_is_seen_at_once(self):
        self.world.put("other", "word", number(3))
        self.world.put("top", "word", number(2))
        self.row_gives(number(3), *self.kinds("low", "other", "top"), ("elders", 2), ("get", "it"), ("read", "word"),
                       looks=3, **self.it(thing(0)))


class Guards(Rows):
    def test_the_stack_is_cut(self):
        three = tuple(push(number(n)) for n in range(3))
        for height in range(4):
            self.setUp()
            self.world.deed("do", (three + (("kind", "zz"), ("give",), ("give",)), ((3, 4, 5, height),)))
            self.gives(text("nokind"), 5, "do")
            # Beneath the fall's word lies what the guard's height leaves.
            if height:
                rows = three + (("kind", "zz"), ("give",), ("let", "fall"), ("give",))
                self.world.deed("again", (rows, ((3, 4, 5, height),)))
                self.gives(number(height - 1), 6, "again")

    def test_the_innermost_call_that_has_a_guard(self):
        self.world.deed("in", (giving(("kind", "zz"))[0] + (("give",),), ((0, 1, 2, 0),)))
        self.world.deed("mid", (giving(("deed", "in"), ("call", 0), ("kind", "zz"))[0] + (("give",),), ((2, 3, 4, 0),)))
        self.world.deed("out", (giving(("deed", "mid"), ("call", 0))[0] + (("give",),), ((0, 2, 3, 0),)))
        self.gives(text("nokind"), 9, "out")

    def test_calls_within_are_over(self):
        self.deed("deep", ("get", "none"))
        self.deed("mid", push(NONE), ("deed", "deep"), ("call", 0))
        self.world.deed("out", ((("deed", "mid"), ("call", 0), ("give",), ("let", "fall"), ("get", "zz"), ("give",)),
                                ((1, 2, 3, 0),)))
        self.falls("nolocal", (("out", 4),), 8, "out")

    def test_a_guard_of_the_row_of_the_call(self):
        self.deed("in", ("get", "none"))
        for first, last, caught in ((0, 1, False), (1, 2, True), (2, 3, False), (0, 2, True), (1, 3, True)):
            self.setUp()
            self.deed("in", ("get", "none"))
            self.world.deed("do", ((("deed", "in"), ("call", 0), ("give",), ("give",)), ((first, last, 3, 0),)))
            if caught:
                self.gives(text("nolocal"), 4, "do")
            else:
                self.falls("nolocal", (("do", 1), ("in", 0)), 3, "do")

    def test_a_fall_in_what_the_guard_goes_on_at(self):
        rows = (("get", "none"), ("give",), ("let", "fall"), ("kind", "zz"), ("give",))
        self.world.deed("do", (rows, ((0, 1, 2, 0),)))
        self.falls("nokind", (("do", 3),), 3, "do")
        self.world.deed("again", (rows + (("give",),), ((0, 1, 2, 0), (3, 4, 5, 0))))
        self.gives(text("nokind"), 4, "again")

    def test_a_guard_that_goes_back_to_its_own_rows(self):
        rows = (("get", "none"), ("let", "fall"), ("get", "none"), ("give",))
        self.world.deed("do", (rows, ((0, 1, 1, 0), (2, 3, 1, 0))))
        self.ends(("tired", (("do", 2),)), 400, "do")

    def test_what_was_done_stays_done(self):
        self.deed("in", ("kind", "low"), push(YES), ("write", "word"), ("kind", "zz"))
        self.row_falls("nokind", ("deed", "in"), ("call", 0), steps=4, within=(("in", 3),),
                       changes=[("put", "low", "word", YES)])

    def test_locals_stay(self):
        rows = (push(number(4)), ("let", "it"), ("kind", "zz"), ("give",), ("let", "fall"), ("get", "it"), ("give",))
        self.world.deed("do", (rows, ((2, 3, 4, 0),)))
        self.gives(number(4), 6, "do")

    def test_tired_is_caught_by_nothing(self):
        self.world.deed("do", (giving(push(NONE))[0], ((0, 2, 1, 0),)))
        for most in (0, 1):
            self.assertEqual(self.run_it("do", (), most)[0], (("tired", (("do", most),)), most))


class Turning(Rows):
    """Deeds that turn kinds, write and drop words while they run."""

    def test_words_come_and_go(self):
        rows = [("kind", "top"), push(number(1)), ("write", "word"), ("get", "it"), ("read", "word"),
                ("kind", "low"), push(number(2)), ("write", "word"), ("get", "it"), ("read", "word"), ("add",),
                ("kind", "low"), ("drop", "word"), ("get", "it"), ("read", "word"), ("add",),
                ("get", "it"), push(number(10)), ("write", "word"), ("get", "it"), ("read", "word"), ("add",),
                ("get", "it"), ("drop", "word"), ("get", "it"), ("read", "word"), ("add",)]
        changes = [("put", "top", "word", number(1)), ("put", "low", "word", number(2)), ("out", "low", "word"),
                   ("lay", 0, "word", number(10)), ("lift", 0, "word")]
        self.row_gives(number(15), *rows, looks=3 + 2 + 3 + 3 + 3 + 2 + 3, changes=changes, **self.it(thing(0)))

    def test_a_call_goes_on_whatever_is_turned(self):
        self.deed("cut", ("kind", "low"), ("elders", 0), ("kind", "top"), ("drop", "go"), push(number(1)),
                  takes=("it",))
        self.world.put("top", "go", ("deed", "cut"))
        self.row_gives(number(1), ("get", "it"), ("read", "go"), ("call", 0), steps=6, looks=3,
                       changes=[("turn", "low", ()), ("out", "top", "go")], **self.it(thing(0)))
        self.row_falls("noword", ("get", "it"), ("read", "go"), ("call", 0), ("let", "no"), ("get", "it"),
                       ("read", "go"), steps=6, looks=3 + 3, **self.it(thing(0)))

    def test_runs_behind_one_another(self):
        self.deed("next", ("get", "it"), ("get", "it"), ("read", "word"), push(number(1)), ("add",), ("write", "word"),
                  ("get", "it"), ("read", "word"), takes=("it",))
        self.world.put("top", "word", number(0))
        machine = Plain(self.world)
        for n in range(1, 4):
            self.assertEqual(machine.run("next", (thing(0),)), (("gave", number(n)), 9))
            self.assertEqual(machine.looks(), 9 * n)
        self.assertEqual(self.world.words("top"), [("word", number(0))])
        self.assertEqual(self.world.own(0), [("word", number(3))])
        self.world.lift(0, "word")
        self.world.put("low", "word", number(40))
        self.assertEqual(machine.run("next", (thing(0),)), (("gave", number(41)), 9))
        self.assertEqual(machine.looks(), 33)


class Numbers(Rows):
    def test_add_numbers(self):
        for one, other in itertools.product((0, 1, -1, BIG, -BIG, BIG - 1), repeat=2):
            rows = (push(number(one)), push(number(other)), ("add",))
            if abs(one + other) <= BIG:
                self.row_gives(number(one + other), *rows, looks=0)
            else:
                self.row_falls("beyond", *rows, looks=0)

    def test_add_texts(self):
        for one, other in (("", ""), ("a", "b"), ("x" * 10, "y" * 10), ("x" * 20, ""), ("", "\t")):
            self.row_gives(text(one + other), push(text(one)), push(text(other)), ("add",), looks=0)
        for one, other in (("x" * 20, "y"), ("x" * 11, "y" * 10), ("x" * 20, "y" * 20)):
            self.row_falls("beyond", push(text(one)), push(text(other)), ("add",), looks=0)

    def test_less(self):
        for one, other in itertools.product((-BIG, -1, 0, 1, BIG), repeat=2):
            self.row_gives(("truth", one < other), push(number(one)), push(number(other)), ("less",), looks=0)
        for one, other in itertools.product(("", "a", "B", "ab", "b", " ", "~", "\t"), repeat=2):
            self.row_gives(("truth", one < other), push(text(one)), push(text(other)), ("less",), looks=0)

    def test_noadd_and_noless(self):
        worths = [NONE, NOT, YES, number(1), text("1"), ("kind", "low"), ("deed", "me"), ("gate", "me", None),
                  ("bound", "me", "low", thing(0)), thing(0), thing(1)]
        for one, other in itertools.product(worths, repeat=2):
            if one[0] == other[0] and one[0] in ("number", "text"):
                continue
            some = {"takes": ("it", "that"), "arguments": (one, other)}
            self.row_falls("noadd", ("get", "it"), ("get", "that"), ("add",), **some)
            self.row_falls("noless", ("get", "it"), ("get", "that"), ("less",), **some)

    def test_same(self):
        worths = [NONE, NOT, YES, NO, number(1), number(0), text("1"), text(""), ("kind", "low"), ("kind", "top"),
                  ("deed", "me"), ("deed", "two"), ("gate", "me", None), ("gate", "me", "me"), thing(0), thing(1),
                  ("bound", "me", "low", thing(0)), ("bound", "me", "low", thing(1)), ("bound", "me", "top", thing(0))]
        for one, other in itertools.product(worths, repeat=2):
            self.row_gives(("truth", one == other), ("get", "it"), ("get", "that"), ("same",), takes=("it", "that"),
                           arguments=(one, other))


if __name__ == "__main__":
    unittest.main()
