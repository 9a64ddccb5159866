"""Worlds with a deed for each row that looks, drawn by a random source with a seed: its place is visited often."""

from drawn_code import KINDS, PLAIN

X, Y, NONE = ("get", "x"), ("get", "y"), ("none",)
ROWS = {
    "rd": [X, ("read", "red")],
    "wr": [X, Y, ("write", "red"), X],
    "dr": [X, ("drop", "red"), X],
    "ab": [X, ("above", "red")],
    "cl": [X, ("call", 0)],
    "ad": [X, Y, ("add",)],
    "ls": [X, Y, ("less",)],
    "sm": [X, Y, ("same",)],
    "un": [X, ("unless", 4), Y, ("give",), X],
    "sz": [X, ("size",)],
    "el": [X, Y, ("elders", 1), X],
}
WORDS = ["red"] * 6 + ["begin", "missing", "add", "radd", "less", "more", "same", "size", "truth"]
HOMES = [(5, "low"), (5, "left"), (5, "right"), (6, "low"), (1, "left"), (3, "low")]


def draw_looks(source):
    """Draw the changes of a world; tell how many things there are, too."""
    rows = {**ROWS, "gv": [("push", source.choice(PLAIN))]}
    changes = [("deed", name, (tuple(some) + (("give",),), ()), ("x", "y"), (NONE, NONE)) for name,
               some in rows.items()]
    changes += [("kind", "top", ()), ("kind", "left", ("top",)), ("kind", "right", ("top",)),
                ("kind", "low", ("left", "right")), ("kind", "other", ())]
    changes += [("thing", kind) for kind in KINDS + ["low", "low"]]
    for _ in range(source.randrange(3, 16)):
        changes.append(("put", source.choice(KINDS), source.choice(WORDS), draw_worth(source)))
    return changes, len(KINDS) + 2


def draw_worth(source):
    if source.random() < 0.6:
        return ("deed", source.choice(["gv", "gv", "gv", "sm", "un", "rd", "wr", "cl"]))
    return source.choice([("gate", "gv", None), ("gate", "gv", "gv"), ("gate", "sm", "wr"), NONE, ("number", 1)])


def draw_jobs(source):
    """Draw runs; above is called as a bound deed, by the row call."""
    jobs = []
    for _ in range(source.choice([3, 4, 5])):
        deed = source.choice(sorted(ROWS) + ["rd", "rd", "ab", "ab"])
        x, y = [("kind", source.choice(KINDS)) if source.random() < 0.25 or deed in ("cl", "el")
                else ("thing", source.randrange(7)) for _ in range(2)]
        if deed == "ab":
            n, home = source.choice(HOMES)
            deed, x = "cl", ("bound", "ab", home, ("thing", n))
        jobs.append((deed, (x, y)))
    return jobs
