"""A second machine, by the words of [12] to [18], over a second world.

It calls nothing within a call: what is to be done when a call gives waits in a list.
Each look is noted, with its place, for who wants to tell what a quick machine makes of it.
"""

from second_world import Refused


class Falls(Exception):
    pass


class Call:
    def __init__(self, deed, code, locals_, home, then):
        self.deed, (self.rows, self.guards) = deed, code
        self.locals, self.home, self.then = locals_, home, then
        self.stack, self.at = [], 0


class SecondMachine:
    def __init__(self, world):
        self.world = world
        self.looks = 0
        self.notes = []

    def run(self, deed, arguments, most):
        self.calls, self.steps, self.end = [], 0, None
        self.notes = []
        try:
            self.enter(deed, arguments, None, self.finish)
        except Falls as fall:
            return (("fell", str(fall), ()), 0)
        while self.end is None:
            if self.steps == most:
                self.end = ("tired", self.trail())
            else:
                self.steps += 1
                self.guarded(self.row)
        return (self.end, self.steps)

    def finish(self, worth):
        self.end = ("gave", worth)

    def trail(self):
        return tuple((call.deed, call.at) for call in self.calls)

    def guarded(self, do, *parts):
        """Do this; where it falls, go on at the innermost guard, or end."""
        try:
            do(*parts)
        except Falls as fall:
            trail = self.trail()
            while self.calls:
                call = self.calls[-1]
                for first, last, r, height in call.guards:
                    if call.at in range(first, last):
                        call.stack = call.stack[:height] + [("text", str(fall))]
                        call.at = r
                        return
                self.calls.pop()
            self.end = ("fell", str(fall), trail)

    # Calls.

    def check(self, deed, many):
        code, takes, worths = self.world.deeds[deed]
        if many > len(takes) or many < len(takes) - len(worths):
            raise Falls("takes")

    def enter(self, deed, arguments, home, then):
        if len(self.calls) == 12:
            raise Falls("deep")
        self.check(deed, len(arguments))
        code, takes, worths = self.world.deeds[deed]
        worths = (None,) * (len(takes) - len(worths)) + worths
        self.calls.append(Call(deed, code, dict(zip(takes, arguments + worths[len(arguments):])), home, then))

    def enter_found(self, found, arguments, then):
        self.enter(found[1][1], arguments, found[0], then)

    def call(self, worth, arguments, then):
        if worth[0] == "deed":
            self.enter(worth[1], arguments, None, then)
        elif worth[0] == "bound":
            self.enter(worth[1], (worth[3],) + arguments, worth[2], then)
        elif worth[0] == "kind":
            begin = self.look(worth[1], "begin", 0)
            if not deed(begin):
                if len(self.world.kind_of) == 60:
                    raise Falls("full")
                if arguments:
                    raise Falls("takes")
                then(self.make(worth[1]))
                return
            if len(self.calls) == 12:
                raise Falls("deep")
            if len(self.world.kind_of) == 60:
                raise Falls("full")
            self.check(begin[1][1], len(arguments) + 1)
            thing = self.make(worth[1])
            self.enter_found(begin, (thing,) + arguments, lambda _: then(thing))
        else:
            raise Falls("nocall")

    def make(self, kind):
        self.world.change(("thing", kind))
        return ("thing", len(self.world.kind_of) - 1)

    # Looks.

    def first(self, kinds, word):
        """Tell what is found, and how many tables were looked at."""
        for many, name in enumerate(kinds, 1):
            for other, worth in self.world.words(name):
                if other == word:
                    return (name, worth), many
        return None, len(kinds)

    def note(self, number, lets, guard, found, asked, others):
        """Note a look of this number (None of a drop) of the row that is at.

        lets: the guards that would let it by; guard: its own, or None; asked: what an answer
        may serve, (version, word, tables), or None; others: the tables that none serves.
        """
        call = self.calls[-1]
        place = None if number is None else (call.deed, call.at, number)
        self.looks += others + (asked[2] if asked else 0)
        self.notes.append((place, lets, guard, found, asked, others))

    def look(self, kind, word, number):
        """Look for missing, begin, or a word of an operator."""
        found, tables = self.first(self.world.line(kind), word)
        guard = ("word", self.world.version(kind))
        self.note(number, [guard], guard, found, (guard[1], word, tables), 0)
        return found

    def look_of_thing(self, x, word, is_write):
        """Look for the word of a thing that is read or written, at its own table, too, if need be."""
        found, tables = self.first(self.world.line(self.kind(x)), word)
        version, shape = self.world.version(self.kind(x)), tuple(self.world.shape(x[1]))
        guard = ("thing", version) if writer(found) else ("thing", version, shape)
        told = is_write or found is not None or word in shape
        self.note(0, [("thing", version), ("thing", version, shape)], guard if told else None, found,
                  (version, word, tables), 0 if writer(found) else 1)
        return found

    def kind(self, thing):
        return self.world.kind_of[thing[1]]

    # Rows.

    def row(self):
        call = self.calls[-1]
        row = call.rows[call.at]
        getattr(self, "row_" + row[0])(call, *row[1:])

    def on(self, call, *worths):
        """Go on at the next row, with these upon the stack."""
        call.stack.extend(worths)
        call.at += 1

    def row_push(self, call, worth):
        self.on(call, worth)

    def row_kind(self, call, name):
        if name not in self.world.kinds():
            raise Falls("nokind")
        self.on(call, ("kind", name))

    def row_deed(self, call, name):
        if name not in self.world.deeds:
            raise Falls("nodeed")
        self.on(call, ("deed", name))

    def row_get(self, call, name):
        if name not in call.locals:
            raise Falls("nolocal")
        self.on(call, call.locals[name])

    def row_let(self, call, name):
        call.locals[name] = call.stack.pop()
        self.on(call)

    def row_calm(self, call):
        self.notes.append("calm")
        self.on(call)

    def row_jump(self, call, r):
        call.at = r

    def row_give(self, call):
        worth = call.stack.pop()
        self.calls.pop()
        if self.calls:
            self.guarded(call.then, worth)
        else:
            call.then(worth)

    def row_unless(self, call, r):
        def told(true):
            call.at = call.at + 1 if true else r
        self.truth(call.stack.pop(), told)

    def row_read(self, call, word):
        x = call.stack.pop()
        if x[0] not in ("thing", "kind"):
            raise Falls("noword")
        if x[0] == "kind":
            found, tables = self.first(self.world.line(x[1]), word)
            guard = ("kind", self.world.version(x[1]))
            self.note(0, [guard], guard if found else None, found, (guard[1], word, tables), 0)
            if found is None:
                raise Falls("noword")
            self.on(call, found[1])
            return
        found = self.look_of_thing(x, word, False)
        if not writer(found):
            if word in self.world.shape(x[1]):
                self.on(call, dict(self.world.own(x[1]))[word])
                return
        if found is not None:
            self.by(call, x, found)
            return
        missing = self.look(self.kind(x), "missing", 1)
        if not deed(missing):
            raise Falls("noword")
        self.enter_found(missing, (x, ("text", word)), lambda worth: self.on(call, worth))

    def by(self, call, x, found):
        kind, worth = found
        if worth[0] == "gate":
            self.enter(worth[1], (x,), kind, lambda told: self.on(call, told))
        else:
            self.on(call, ("bound", worth[1], kind, x) if worth[0] == "deed" else worth)

    def row_above(self, call, word):
        x = call.stack.pop()
        if call.home is None or x[0] != "thing" or call.home not in self.world.line(self.kind(x)):
            raise Falls("nohome")
        line = self.world.line(self.kind(x))
        found, tables = self.first(line[line.index(call.home) + 1:], word)
        guard = ("above", self.world.version(self.kind(x)), call.home)
        self.note(0, [guard], guard if found else None, found, None, tables)
        if found is None:
            raise Falls("noword")
        self.by(call, x, found)

    def row_write(self, call, word):
        y, x = call.stack.pop(), call.stack.pop()
        if x[0] == "kind":
            self.change("full", ("put", x[1], word, y))
        elif x[0] == "thing":
            found = self.look_of_thing(x, word, True)
            if writer(found):
                self.enter(found[1][2], (x, y), found[0], lambda _: self.on(call))
                return
            self.change("full", ("lay", x[1], word, y))
        else:
            raise Falls("noword")
        self.on(call)

    def row_drop(self, call, word):
        x = call.stack.pop()
        if x[0] == "kind":
            self.change("noword", ("out", x[1], word))
        elif x[0] == "thing":
            found, tables = self.first(self.world.line(self.kind(x)), word)
            self.note(None, [], None, found, (self.world.version(self.kind(x)), word, tables), 0)
            if writer(found):
                raise Falls("shut")
            self.change("noword", ("lift", x[1], word))
        else:
            raise Falls("noword")
        self.on(call)

    def change(self, text, change):
        """Make a change, whose only refusal that can come falls by this text."""
        try:
            self.world.change(change)
        except Refused as refused:
            assert refused.name == {"full": "Full", "noword": "NoWord"}[text]
            raise Falls(text)

    def row_elders(self, call, n):
        worths = [call.stack.pop() for _ in range(n + 1)][::-1]
        if [worth[0] for worth in worths] != ["kind"] * (n + 1):
            raise Falls("nokind")
        try:
            self.world.change(("turn", worths[0][1], tuple(worth[1] for worth in worths[1:])))
        except Refused as refused:
            raise Falls({"NoKind": "nokind", "Round": "round", "NoLine": "noline"}[refused.name])
        self.on(call)

    def row_call(self, call, n):
        worths = [call.stack.pop() for _ in range(n + 1)][::-1]
        self.call(worths[0], tuple(worths[1:]), lambda worth: self.on(call, worth))

    def row_add(self, call):
        y, x = call.stack.pop(), call.stack.pop()
        if x[0] == y[0] == "number":
            if abs(x[1] + y[1]) > 10 ** 9:
                raise Falls("beyond")
            self.on(call, ("number", x[1] + y[1]))
        elif x[0] == y[0] == "text":
            if len(x[1]) + len(y[1]) > 20:
                raise Falls("beyond")
            self.on(call, ("text", x[1] + y[1]))
        else:
            self.by_words(call, x, y, "add", "radd", self.fall("noadd"))

    def row_less(self, call):
        y, x = call.stack.pop(), call.stack.pop()
        if x[0] == y[0] and x[0] in ("number", "text"):
            self.on(call, ("truth", x[1] < y[1]))
        else:
            self.by_words(call, x, y, "less", "more", self.fall("noless"))

    def row_same(self, call):
        y, x = call.stack.pop(), call.stack.pop()
        self.by_words(call, x, y, "same", "same", lambda: self.on(call, ("truth", x == y)))

    def fall(self, text):
        def do():
            raise Falls(text)
        return do

    def by_words(self, call, x, y, word, turned, none):
        """Ask side for side; none is done where no side told."""
        things = x[0] == y[0] == "thing"
        ahead, first = "not looked for", "left"
        if things and self.kind(x) != self.kind(y) and self.kind(x) in self.world.line(self.kind(y)):
            ahead = self.look(self.kind(y), turned, 1)
            if deed(ahead):
                left = self.look(self.kind(x), turned, 2)
                if not deed(left) or left[0] != ahead[0]:
                    first = "right"

        def ask_left(then):
            found = self.look(self.kind(x), word, 0) if x[0] == "thing" else None
            self.ask(call, found, (x, y), then)

        def ask_right(then):
            if y[0] != "thing" or (things and self.kind(x) == self.kind(y)):
                then()
                return
            found = self.look(self.kind(y), turned, 1) if ahead == "not looked for" else ahead
            self.ask(call, found, (y, x), then)

        if first == "left":
            ask_left(lambda: ask_right(none))
        else:
            ask_right(lambda: ask_left(none))

    def ask(self, call, found, arguments, then):
        if not deed(found):
            then()
            return
        self.enter_found(found, arguments, lambda worth: then() if worth == ("not",) else self.on(call, worth))

    def row_size(self, call):
        x = call.stack.pop()
        if x[0] == "text":
            self.on(call, ("number", len(x[1])))
            return
        found = self.look(self.kind(x), "size", 0) if x[0] == "thing" else None
        if not deed(found):
            raise Falls("nosize")
        self.enter_found(found, (x,), lambda worth: self.on(call, self.size(worth)))

    def size(self, worth):
        if worth[0] != "number" or worth[1] < 0:
            raise Falls("badsize")
        return worth

    def truth(self, x, told):
        simple = {"none": lambda: False, "not": lambda: False, "truth": lambda: x[1], "number": lambda: x[1] != 0,
                  "text": lambda: x[1] != ""}
        if x[0] != "thing":
            told(simple.get(x[0], lambda: True)())
            return

        def by_truth(worth):
            if worth[0] != "truth":
                raise Falls("badtruth")
            told(worth[1])
        found = self.look(self.kind(x), "truth", 0)
        if deed(found):
            self.enter_found(found, (x,), by_truth)
            return
        found = self.look(self.kind(x), "size", 1)
        if deed(found):
            self.enter_found(found, (x,), lambda worth: told(self.size(worth)[1] > 0))
        else:
            told(True)


def deed(found):
    return found is not None and found[1][0] == "deed"


def writer(found):
    return found is not None and found[1][0] == "gate" and found[1][2] is not None
