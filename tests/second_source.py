"""A second way of reading sources, by the words of [22], [23] and [25].

Tokens are found by one pattern. Whether a token can stand is told by all readings of the grammar at once,
row by row as [22] tells it. Trees are not read here at all: they are drawn, and written as texts with their places.
"""

import re

KEPT = "deed if else while guard give drop above calm yes no none".split()
TOKEN = re.compile(r'[a-z]{1,8}|1000000000|[1-9][0-9]{0,8}|0|"[ -!#-~]{0,20}"|==|[(){}.,;+<=]')


def tokens_of(text):
    """Tell the tokens as texts; the last one is None where a sign begins none."""
    tokens, at = [], 0
    while True:
        while text[at:at + 1] in (" ", "\n"):
            at += 1
        if at == len(text):
            return tokens
        match = TOKEN.match(text, at)
        if match is None:
            return tokens + [None]
        tokens.append(match[0])
        at = match.end()


def sort_of(token):
    """Tell what a token is in the grammar."""
    if token is None or token in KEPT or not (token[0].isalnum() or token[0] == '"'):
        return token
    return "TEXT" if token[0] == '"' else "NUMBER" if token[0].isdigit() else "NAME"


def grammar():
    """Tell of each sort of the grammar how it can be written."""
    rules = {
        "SOURCE": ["deed NAME ( TAKES ) BLOCK"],
        "PLAIN": ["NUMBER", "TEXT", "yes", "no", "none"],
        "BLOCK": ["{ STEPS }"],
        "STEPS": ["", "STEPS STEP"],
        "STEP": ["NAME = SUM ;", "PART . NAME = SUM ;", "drop PART . NAME ;", "if SUM BLOCK", "if SUM BLOCK else BLOCK",
                 "while SUM BLOCK", "guard BLOCK else NAME BLOCK", "give SUM ;", "calm ;", "SUM ;"],
        "SUM": ["ADD", "ADD < ADD", "ADD == ADD"],
        "ADD": ["PART", "ADD + PART"],
        "PART": ["ATOM", "PART . NAME", "PART ( SUMS )"],
        "SUMS": [" , ".join(["SUM"] * many) for many in range(5)],
        "ATOM": ["PLAIN", "NAME", "above . NAME", "( SUM )"],
        "TAKES": [" , ".join(["NAME"] * bare + ["NAME = PLAIN"] * more)
                  for bare in range(5) for more in range(5 - bare)],
    }
    return {name: [tuple(way.split()) for way in ways] for name, ways in rules.items()}


RULES = grammar()
EMPTY = [name for name, ways in RULES.items() if () in ways]


def closed(sets, items):
    """Add to the items of the last set all that follow from them."""
    waiting = list(items)
    while waiting:
        item = waiting.pop()
        if item in sets[-1]:
            continue
        sets[-1].add(item)
        name, way, at, start = item
        if at == len(way):
            waiting += [(other, past, where + 1, begun) for other, past, where, begun in list(sets[start])
                        if past[where:where + 1] == (name,)]
        elif way[at] in RULES:
            waiting += [(way[at], other, 0, len(sets) - 1) for other in RULES[way[at]]]
            if way[at] in EMPTY:
                waiting.append((name, way, at + 1, start))
            waiting += [(name, way, at + 1, start) for other, past, where, begun in list(sets[-1])
                        if other == way[at] and where == len(past) and begun == len(sets) - 1]


def refused_by_grammar(sorts):
    """Tell the place of the first of these that can't stand behind those ahead, or None.

    Where more are due it is how many there are.
    """
    sets = [set()]
    closed(sets, [("SOURCE", way, 0, 0) for way in RULES["SOURCE"]])
    for place, sort in enumerate(sorts):
        on = [(name, way, at + 1, start) for name, way, at, start in sets[-1] if way[at:at + 1] == (sort,)]
        if not on:
            return place
        sets.append(set())
        closed(sets, on)
    done = any(name == "SOURCE" and at == len(way) for name, way, at, _ in sets[-1])
    return None if done else len(sorts)


def refused_place(text):
    """Tell the place by which a text is refused with NoSource, its bounds left aside, or None."""
    tokens = tokens_of(text)
    place = refused_by_grammar([sort_of(token) for token in tokens])
    ends = [place] if place is not None else []
    # What the grammar leaves open: takes are unlike, and above needs one.
    close = tokens.index(")") if ")" in tokens else len(tokens)
    names = [(at, token) for at, token in enumerate(tokens[:close]) if at > 2 and sort_of(token) == "NAME"]
    for number, (at, name) in enumerate(names):
        if name in [other for _, other in names[:number]]:
            ends.append(at)
    if not names and "above" in tokens:
        ends.append(tokens.index("above"))
    return min(ends) if ends else None


# Drawn trees, without places.

NAMES = ["x", "y", "z", "abcdefgh", "deeds", "iff", "e"]
PLAIN = [("number", 0), ("number", 7), ("number", 10 ** 9), ("text", ""), ("text", "a b"), ("text", "{};=.+<()~ !#,"),
         ("truth", True), ("truth", False), ("none",)]


class Draw:
    """Draws trees without places: each node less its second part."""

    def __init__(self, source, names=NAMES, words=NAMES, plain=PLAIN):
        self.source, self.names, self.words, self.plain = source, names, words, plain
        self.has_takes = False

    def one(self, *some):
        return self.source.choice(some)

    def deed(self, depth):
        many = self.source.randrange(5)
        names = self.source.sample(self.names, min(many, len(self.names)))
        bare = self.source.randrange(len(names) + 1)
        takes = tuple((name,) if at < bare else (name, self.one(*self.plain)) for at, name in enumerate(names))
        self.has_takes = many > 0
        return ("deed", self.one(*self.names), takes, self.steps(depth, 4))

    def steps(self, depth, most):
        return tuple(self.step(depth) for _ in range(self.source.randrange(most)))

    def step(self, depth):
        sort = self.one("set", "write", "drop", "give", "calm", "do", "do", *["if", "while", "guard"] * (depth > 0))
        if sort == "set":
            return (sort, self.one(*self.names), self.sum(depth))
        if sort == "write":
            return (sort, self.sum(depth), self.one(*self.words), self.sum(depth))
        if sort == "drop":
            return (sort, self.sum(depth), self.one(*self.words))
        if sort in ("give", "do"):
            return (sort, self.sum(depth))
        if sort == "calm":
            return (sort,)
        if sort == "if":
            return (sort, self.sum(depth - 1), self.steps(depth - 1, 3), self.steps(depth - 1, 3))
        if sort == "while":
            return (sort, self.sum(depth - 1), self.steps(depth - 1, 3))
        return (sort, self.steps(depth - 1, 3), self.one(*self.names), self.steps(depth - 1, 2))

    def sum(self, depth):
        sort = self.one("plain", "name", "above", *["read", "call", "add", "less", "same", "read", "add"] * (depth > 0))
        if sort == "plain":
            return (sort, self.one(*self.plain))
        if sort == "name" or sort == "above" and not self.has_takes:
            return ("name", self.one(*self.names))
        if sort == "above":
            return (sort, self.one(*self.words))
        if sort == "read":
            return (sort, self.sum(depth - 1), self.one(*self.words))
        if sort == "call":
            return (sort, self.sum(depth - 1), tuple(self.sum(depth - 1) for _ in range(self.one(0, 0, 1, 1, 2, 3, 4))))
        return (sort, self.sum(depth - 1), self.sum(depth - 1))


class Write:
    """Writes the tokens of a tree without places, and tells the tree with them.

    Where more brackets may stand, some do, now and then; how many is a share.
    """

    def __init__(self, source, share=0.0):
        self.source, self.share, self.tokens = source, share, []

    def put(self, *tokens):
        """Put tokens, and tell the place of the first."""
        self.tokens += tokens
        return len(self.tokens) - len(tokens)

    def plain(self, worth):
        return {"number": lambda: str(worth[1]), "text": lambda: f'"{worth[1]}"', "none": lambda: "none",
                "truth": lambda: "yes" if worth[1] else "no"}[worth[0]]()

    def deed(self, tree):
        _, name, takes, steps = tree
        self.put("deed", name, "(")
        for at, take in enumerate(takes):
            self.put(*[","] * (at > 0), take[0], *["=", self.plain(take[1])] if len(take) > 1 else [])
        self.put(")")
        return ("deed", name, takes, self.block(steps), len(self.tokens) - 1)

    def block(self, steps):
        self.put("{")
        steps = tuple(self.step(step) for step in steps)
        self.put("}")
        return steps

    def step(self, node):
        sort = node[0]
        if sort == "if":
            place = self.put("if")
            asked, steps = self.sum(node[1], 0), self.block(node[2])
            if node[3] or self.source.random() < self.share:
                self.put("else")
                return (sort, place, asked, steps, self.block(node[3]))
            return (sort, place, asked, steps, ())
        if sort == "while":
            return (sort, self.put("while"), self.sum(node[1], 0), self.block(node[2]))
        if sort == "guard":
            place = self.put("guard")
            steps = self.block(node[1])
            self.put("else", node[2])
            return (sort, place, steps, node[2], self.block(node[3]))
        node = self.short(node)
        place = self.put(";")
        return (node[0], place) + node[1:] if sort == "do" else node

    def short(self, node):
        sort = node[0]
        if sort == "set":
            self.put(node[1])
            return (sort, self.put("="), node[1], self.sum(node[2], 0))
        if sort == "write":
            asked = self.sum(node[1], 2)
            self.put(".", node[2])
            return (sort, self.put("="), asked, node[2], self.sum(node[3], 0))
        if sort == "drop":
            place = self.put("drop")
            asked = self.sum(node[1], 2)
            self.put(".", node[2])
            return (sort, place, asked, node[2])
        if sort == "give":
            return (sort, self.put("give"), self.sum(node[1], 0))
        return (sort, self.put("calm")) if sort == "calm" else (sort, self.sum(node[1], 0))

    def sum(self, node, level):
        """Write a sum where all may stand (0), or an add (1), or a part alone (2)."""
        own = {"less": 0, "same": 0, "add": 1}.get(node[0], 2)
        many = int(own < level)
        while self.source.random() < self.share and many < 3:
            many += 1
        self.put(*["("] * many)
        told = self.bare(node)
        self.put(*[")"] * many)
        return told

    def bare(self, node):
        sort = node[0]
        if sort == "plain":
            return (sort, self.put(self.plain(node[1])), node[1])
        if sort == "name":
            return (sort, self.put(node[1]), node[1])
        if sort == "above":
            return (sort, self.put("above", ".", node[1]), node[1])
        one = self.sum(node[1], 2 if sort in ("read", "call") else 1)
        if sort == "read":
            return (sort, self.put(".", node[2]), one, node[2])
        if sort == "call":
            place, given = self.put("("), []
            for at, part in enumerate(node[2]):
                self.put(*[","] * (at > 0))
                given.append(self.sum(part, 0))
            self.put(")")
            return (sort, place, one, tuple(given))
        place = self.put({"add": "+", "less": "<", "same": "=="}[sort])
        return (sort, place, one, self.sum(node[2], 2 if sort == "add" else 1))


def spaced(source, tokens):
    """Tell a text of these tokens, with blanks, line feeds or nothing between, so that the tokens stay as they are."""
    text, ahead = "", None
    for token in tokens:
        gap = source.choice(["", "", " ", "\n", "  \n "])
        if gap == "" and ahead is not None and tokens_of(ahead + token) != [ahead, token]:
            gap = source.choice([" ", "\n"])
        text, ahead = text + gap + token, token
    return text


# What trees are compiled to. A row that leads on has a label, which is put in at the end.

class Rows:
    def __init__(self, tree):
        self.takes, self.rows, self.guards, self.labels = tree[2], [], [], {}
        self.steps(tree[3])
        self.rows += [(("push", ("none",)), tree[4]), (("give",), tree[4])]

    def told(self):
        rows = tuple((row[0], self.labels[row[1]]) if row[0] in ("jump", "unless") else row for row, _ in self.rows)
        guards = tuple((first, last, self.labels[label], 0) for first, last, label in self.guards)
        return ((rows, guards), [place for _, place in self.rows])

    def add(self, place, *row):
        self.rows.append((row, place))

    def label(self, label):
        self.labels[label] = len(self.rows)

    def steps(self, steps):
        for step in steps:
            getattr(self, "of_" + step[0])(*step[1:])

    def sums(self, *nodes):
        for node in nodes:
            getattr(self, "of_" + node[0])(*node[1:])

    def of_plain(self, place, worth):
        self.add(place, "push", worth)

    def of_name(self, place, name):
        self.add(place, "get", name)

    def of_above(self, place, word):
        self.add(place, "get", self.takes[0][0])
        self.add(place, "above", word)

    def of_read(self, place, asked, word):
        self.sums(asked)
        self.add(place, "read", word)

    def of_call(self, place, called, given):
        self.sums(called, *given)
        self.add(place, "call", len(given))

    def of_add(self, place, one, other):
        self.sums(one, other)
        self.add(place, "add")

    def of_less(self, place, one, other):
        self.sums(one, other)
        self.add(place, "less")

    def of_same(self, place, one, other):
        self.sums(one, other)
        self.add(place, "same")

    def of_set(self, place, name, asked):
        self.sums(asked)
        self.add(place, "let", name)

    def of_write(self, place, asked, word, worth):
        self.sums(asked, worth)
        self.add(place, "write", word)

    def of_drop(self, place, asked, word):
        self.sums(asked)
        self.add(place, "drop", word)

    def of_give(self, place, asked):
        self.sums(asked)
        self.add(place, "give")

    def of_calm(self, place):
        self.add(place, "calm")

    def of_do(self, place, asked):
        self.sums(asked)
        self.add(place, "let", "none")

    def of_if(self, place, asked, steps, others):
        self.sums(asked)
        self.add(place, "unless", (place, "no"))
        self.steps(steps)
        if others:
            self.add(place, "jump", (place, "end"))
        self.label((place, "no"))
        self.steps(others)
        self.label((place, "end"))

    def of_while(self, place, asked, steps):
        self.label((place, "again"))
        self.sums(asked)
        self.add(place, "unless", (place, "end"))
        self.steps(steps)
        self.add(place, "jump", (place, "again"))
        self.label((place, "end"))

    def of_guard(self, place, steps, name, others):
        first = len(self.rows)
        self.steps(steps)
        if len(self.rows) > first:
            self.guards.append((first, len(self.rows), (place, "fell")))
        self.add(place, "jump", (place, "end"))
        self.label((place, "fell"))
        self.add(place, "let", name)
        self.steps(others)
        self.label((place, "end"))


def bare_of(node):
    """Tell a tree less its places."""
    if node[0] == "deed":
        return node[:3] + (tuple(bare_of(step) for step in node[3]),)
    parts = []
    for part in node[2:]:
        if isinstance(part, tuple) and part and isinstance(part[0], tuple):
            part = tuple(bare_of(one) for one in part)
        elif isinstance(part, tuple) and len(part) > 1 and node[0] != "plain":
            part = bare_of(part)
        parts.append(part)
    return (node[0],) + tuple(parts)
