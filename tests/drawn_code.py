"""Right code, and worlds whose words run it, drawn by a random source with a seed."""

from swiftkin.code import looked

KINDS = ["top", "left", "right", "low", "other"]
WORDS = ["begin", "missing", "add", "radd", "less", "more", "same", "size", "truth", "red", "blue"]
LOCALS = ["me", "you", "it"]
DEEDS = ["da", "db", "dc", "dd", "de", "df", "dg", "dh"]
PLAIN = [("none",), ("not",), ("not",), ("truth", True), ("truth", False), ("number", 0), ("number", 1), ("number", 2),
         ("number", 3), ("number", -1), ("number", 10 ** 9), ("text", ""), ("text", "red"), ("text", "x" * 15)]


class Writer:
    """Writes the rows of a deed, keeping the height of the stack in mind."""

    def __init__(self, source):
        self.source = source
        self.rows = []
        self.guards = []

    def row(self, *row):
        self.rows.append(row)

    def thing(self):
        """Rows that leave a thing, as a rule."""
        source = self.source
        sort = source.randrange(20)
        if sort < 17:
            self.row("get", source.choice(["me", "me", "you"]))
        elif sort < 18:
            self.sum(0)
        else:
            self.row("kind", source.choice(KINDS))
            if source.random() < 0.7:
                self.row("call", 0)

    def called(self):
        """Rows that leave what can be called, as a rule."""
        source = self.source
        sort = source.randrange(8)
        if sort < 5:
            self.thing()
            self.row("read", source.choice(WORDS))
        elif sort < 6:
            self.row("kind", source.choice(KINDS))
        elif sort < 7:
            self.row("deed", source.choice(DEEDS))
        else:
            self.sum(0)

    def sum(self, depth):
        """Rows that leave one worth more."""
        source = self.source
        sort = source.randrange(20 if depth else 7)
        if sort < 3:
            self.row("push", source.choice(PLAIN))
        elif sort < 5:
            self.row("get", source.choice(LOCALS[:2] if source.random() < 0.95 else LOCALS))
        elif sort < 6:
            self.row("kind", source.choice(KINDS + ["zz"] if source.random() < 0.3 else KINDS))
        elif sort < 7:
            self.row("deed", source.choice(DEEDS + ["zz"] if source.random() < 0.3 else DEEDS))
        elif sort < 10:
            self.thing()
            self.row("read", source.choice(WORDS))
        elif sort < 13:
            many = source.choice([0, 0, 0, 1, 1, 2])
            self.called()
            for _ in range(many):
                self.sum(depth - 1)
            self.row("call", many)
        elif sort < 15:
            self.row("push", source.choice(PLAIN[5:]))
            self.row("push", source.choice(PLAIN[5:]))
            self.row(source.choice(["add", "less", "same"]))
        elif sort < 18:
            self.thing()
            (self.thing if source.random() < 0.7 else lambda: self.sum(depth - 1))()
            self.row(source.choice(["add", "less", "same"]))
        elif sort < 19:
            (self.thing if source.random() < 0.7 else lambda: self.sum(depth - 1))()
            self.row("size")
        else:
            self.row("get", source.choice(LOCALS[:2]))
            self.row("above", source.choice(WORDS))

    def step(self, height, depth):
        """Rows that leave the stack as it was."""
        source = self.source
        sort = source.randrange(15 if depth else 9)
        if sort < 2:
            self.sum(2)
            self.row("let", source.choice(LOCALS[1:]))
        elif sort < 4:
            (self.thing if source.random() < 0.7 else lambda: self.sum(0))()
            self.sum(1)
            self.row("write", source.choice(WORDS))
        elif sort < 5:
            (self.thing if source.random() < 0.7 else lambda: self.sum(0))()
            self.row("drop", source.choice(WORDS))
        elif sort < 6:
            many = source.choice([0, 1, 1, 2, 2, 3])
            for _ in range(many + 1):
                if source.random() < 0.9:
                    self.row("kind", source.choice(KINDS))
                else:
                    self.sum(0)
            self.row("elders", many)
        elif sort < 7:
            self.row("calm")
        elif sort < 9:
            self.sum(2)
            self.row("give")
            # What stands behind it no way leads to, but by a guard.
        elif sort < 11:
            self.branch(height, depth)
        elif sort < 14:
            self.guard(height, depth)
        else:
            self.row("push", ("text", "below"))
            self.step(height + 1, depth - 1)
            self.row("let", source.choice(LOCALS))

    def steps(self, height, depth):
        for _ in range(self.source.choice([1, 1, 2])):
            self.step(height, depth)

    def branch(self, height, depth):
        self.sum(1)
        unless = len(self.rows)
        self.row("unless", None)
        self.steps(height, depth - 1)
        back = self.source.random() < 0.2
        if back:
            short = self.rows[unless - 1][0] in ("push", "get", "kind", "deed")
            self.row("jump", unless - 1 if short else len(self.rows) + 1)
        self.rows[unless] = ("unless", len(self.rows))

    def guard(self, height, depth):
        first = len(self.rows)
        self.steps(height, depth - 1)
        jump = len(self.rows)
        self.row("jump", None)
        self.guards.append((first, jump, len(self.rows), height))
        self.row("let", self.source.choice(LOCALS[2:]))
        if self.source.random() < 0.4:
            self.steps(height, depth - 1)
        self.rows[jump] = ("jump", len(self.rows))


def draw_code(source):
    """Draw a right code."""
    while True:
        writer = Writer(source)
        for _ in range(source.choice([0, 1, 1, 2])):
            (writer.guard if source.random() < 0.6 else writer.step)(0, 2)
        writer.sum(2)
        writer.row("give")
        code = (tuple(writer.rows), tuple(writer.guards))
        if len(writer.rows) <= 40 and looked(code)[0] == "right":
            return code


def draw_worth(source, things, deep=True):
    sort = source.randrange(10 if deep else 9)
    if sort < 4:
        return source.choice(PLAIN)
    if sort < 5:
        return ("kind", source.choice(KINDS))
    if sort < 7 and things:
        return ("thing", source.randrange(things))
    if sort < 9:
        return ("deed", source.choice(DEEDS))
    return ("bound", source.choice(DEEDS), source.choice(KINDS), draw_worth(source, things, False))


def draw_word(source, things):
    """Draw the worth of a word of a kind: mostly a deed or a gate."""
    sort = source.randrange(10)
    if sort < 6:
        return ("deed", source.choice(DEEDS))
    if sort < 8:
        return ("gate", source.choice(DEEDS), source.choice([None, source.choice(DEEDS)]))
    return draw_worth(source, things)


def draw_changes(source):
    """Draw the changes of a world: kinds, deeds, words and things."""
    changes = []
    for deed in DEEDS:
        takes = tuple(LOCALS[:source.choice([1, 2, 2, 2, 2, 3])])
        many = source.choice([0, len(takes) - 1, len(takes) - 1, len(takes)])
        worths = tuple(source.choice(PLAIN) for _ in range(many))
        changes.append(("deed", deed, draw_code(source), takes, worths))
    changes += [("kind", "top", ()), ("kind", "left", ("top",)), ("kind", "right", ("top",)),
                ("kind", "low", ("left", "right")), ("kind", "other", ())]
    things = source.randrange(2, 7)
    changes += [("thing", source.choice(KINDS)) for _ in range(things)]
    for _ in range(source.randrange(4, 26)):
        changes.append(("put", source.choice(KINDS), source.choice(WORDS), draw_word(source, things)))
    for _ in range(source.randrange(0, 8)):
        changes.append(("lay", source.randrange(1, things), source.choice(WORDS[:8]), draw_worth(source, things)))
    if source.random() < 0.2:
        changes += all_but_full(source)
    return changes, things


def all_but_full(source):
    """Changes that leave little or no room for things, and for words of one kind and one thing."""
    fill = [("put", "top", "w" + sign, ("none",)) for sign in "abcdefghijkl"]
    fill = fill[:12 - source.randrange(2) - len(WORDS)] if source.random() < 0.5 else []
    fill += [("put", "top", word, ("gate", "da", None)) for word in WORDS] if fill else []
    fill += [("lay", 0, word, ("number", 1)) for word in WORDS[-8 + source.randrange(2):]]
    return fill + [("thing", "low")] * source.choice([52, 53, 54, 0])
