"""Changes of worlds drawn by a random source with a seed, right ones and others."""

KINDS = ["aa", "bb", "cc", "dd", "ee", "ff", "gg", "hh"]
WORDS = ["one", "two", "red", "begin", "missing", "add", "radd", "size"]
DEEDS = ["da", "db", "dc"]
CODES = [
    ((("push", ("none",)), ("give",)), ()),
    ((("get", "me"), ("give",)), ()),
    ((("jump", 1), ("push", ("number", 1)), ("give",)), ((0, 1, 2, 0),)),
]
NOT_NAMES = [None, True, False, 0, 1, -1, 7, "", "A", "a b", "abcdefghi", "a1", [], ["aa"], (), ("aa",), [["aa"]], "\n"]
NOT_NUMBERS = [None, True, False, "", "0", "aa", [], [0], (), (0,), -1, 10 ** 20]
NOT_WORTHS = [None, True, 0, "", "none", [], ["none"], (), ("number", True), ("truth", 1), ("text", 5),
              ("number", 10 ** 9 + 1), ("text", "x" * 21), ("worth",), ("none", "none"), ("thing", -1)]


def kind_name(random, world):
    """Draw the name of a kind, mostly of one that there is."""
    there = world.kinds() if world and random.random() < 0.8 else []
    return random.choice(there or KINDS)


def deed_name(random, world):
    """Draw the name of a deed, mostly of one that there is."""
    there = sorted(world.deeds) if world and random.random() < 0.8 else []
    return random.choice(there or DEEDS)


def worth(random, world, deep=True):
    """Draw a worth, now and then one of what there isn't."""
    sort = random.randrange(12 if deep else 10)
    if sort < 3:
        return ("number", random.randrange(-3, 9))
    if sort < 4:
        return random.choice([("none",), ("not",), ("truth", True), ("truth", False), ("text", "red")])
    if sort < 5:
        return ("kind", kind_name(random, world))
    if sort < 6:
        return ("thing", random.randrange(3))
    if sort < 8:
        return ("deed", deed_name(random, world))
    if sort < 10:
        return ("gate", deed_name(random, world), random.choice([None, deed_name(random, world)]))
    return ("bound", deed_name(random, world), kind_name(random, world), worth(random, world, False))


def elders(random, world):
    """Draw elders, mostly unlike kinds that there are."""
    if world and random.random() < 0.8:
        there = world.kinds()
        return tuple(random.sample(there, min(len(there), random.choice([0, 1, 1, 2, 2, 3, 3, 4, 5]))))
    return tuple(random.choice(KINDS) for _ in range(random.choice([0, 1, 1, 2, 2, 2, 3, 3, 4, 5])))


def change(random, world=None):
    """Draw a change like those of the log, one that is refused now and then."""
    sort = random.choice(
        ["kind"] * 5 + ["turn"] * 4 + ["put"] * 5 + ["out"] * 2 + ["thing"] * 2 + ["lay"] * 4 + ["lift"] + ["deed"] * 2)
    many = len(world.kind_of) if world and random.random() < 0.8 else 3
    kind, word, n = kind_name(random, world), random.choice(WORDS), random.randrange(many or 3)
    if sort == "kind":
        return (sort, random.choice(KINDS), elders(random, world))
    if sort == "turn":
        return (sort, kind, elders(random, world))
    if sort == "put":
        return (sort, kind, word, worth(random, world))
    if sort == "out":
        return (sort, kind, word)
    if sort == "thing":
        return (sort, kind)
    if sort == "lay":
        return (sort, n, word, worth(random, world))
    if sort == "lift":
        return (sort, n, word)
    takes = tuple(random.sample(["me", "you", "it", "us"], random.randrange(5)))
    worths = tuple(("number", n) for n in range(random.randrange(len(takes) + 1)))
    if random.random() < 0.2:
        takes, worths = random.choice([(takes, worths + (("none",),) * 4), (takes + ("me", "me"), ())])
    return (sort, random.choice(DEEDS), random.choice(CODES), takes, worths)
