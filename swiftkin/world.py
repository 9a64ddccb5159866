"""The world: kinds with words and versions, things, deeds, and the log of all changes."""

from swiftkin.code import looked
from swiftkin.elders import lines_by
from swiftkin.errors import (
    Full, KinError, NoChange, NoCode, NoKind, NoName, NoThing, NoWord, NoWorth, Round,
)
from swiftkin.worths import is_name, is_plain, is_whole, is_worth

MOST_KINDS = 12
MOST_ELDERS = 4
MOST_WORDS = 12
MOST_THINGS = 60
MOST_OWN = 8
MOST_DEEDS = 12
MOST_TAKES = 4


class World:
    """Kinds, things and deeds, as the changes made so far leave them."""

    def __init__(self):
        # Of each kind: its elders. The kinds stand here in the order of their making.
        self._elders = {}
        self._lines = {}
        # Of each kind: its words with their worths. Such a table is never changed,
        # only replaced, since the pictures keep it.
        self._tables = {}
        self._versions = {}
        # Of each version: its kind, and each name of its line with the table it had.
        self._pictures = []
        # Of each version that is over: the number of the change that ended it.
        self._ends = {}
        # Of each thing: its kind, and its own words with their worths.
        self._things = []
        self._deeds = {}
        self._log = []

    def __len__(self):
        return len(self._things)

    def __eq__(self, other):
        return isinstance(other, World) and self._standing() == other._standing()

    def kind(self, name, *, elders=()):
        """Make a kind with these elders."""
        if not is_name(name) or name in self._elders:
            raise NoName("no name, or a kind's already")
        row = self._elder_row(elders)
        if len(row) > MOST_ELDERS or len(self._elders) >= MOST_KINDS:
            raise Full("too many elders, or kinds")
        after = {**self._elders, name: row}
        self._lines = lines_by(after)
        self._elders = after
        self._tables[name] = {}
        self._give_version(name)
        self._log.append(("kind", name, row))

    def turn(self, name, *, elders):
        """Give a kind other elders."""
        self._need_kind(name)
        row = self._elder_row(elders)
        if len(row) > MOST_ELDERS:
            raise Full("too many elders")
        if any([name in self._lines[elder] for elder in row]):
            raise Round("the kind is in an elder's line")
        after = {**self._elders, name: row}
        self._lines = lines_by(after)
        self._elders = after
        self._give_versions_below(name)
        self._log.append(("turn", name, row))

    def put(self, kind, word, worth):
        """Put a word of a kind."""
        self._need_kind(kind)
        self._need_place(self._tables[kind], word, worth, MOST_WORDS)
        self._tables[kind] = {**self._tables[kind], word: worth}
        self._give_versions_below(kind)
        self._log.append(("put", kind, word, worth))

    def out(self, kind, word):
        """Take a word of a kind out."""
        self._need_kind(kind)
        self._tables[kind] = _without(self._tables[kind], word)
        self._give_versions_below(kind)
        self._log.append(("out", kind, word))

    def thing(self, kind):
        """Make a thing of a kind, and tell its number."""
        self._need_kind(kind)
        if self.is_full():
            raise Full("too many things")
        self._things.append((kind, {}))
        self._log.append(("thing", kind))
        return len(self._things) - 1

    def lay(self, n, word, worth):
        """Lay a word of a thing."""
        self._need_thing(n)
        kind, table = self._things[n]
        self._need_place(table, word, worth, MOST_OWN)
        self._things[n] = (kind, {**table, word: worth})
        self._log.append(("lay", n, word, worth))

    def lift(self, n, word):
        """Lift a word of a thing."""
        self._need_thing(n)
        kind, table = self._things[n]
        self._things[n] = (kind, _without(table, word))
        self._log.append(("lift", n, word))

    def deed(self, name, code, *, takes=(), worths=()):
        """Make a deed of a code, the names that it takes, and worths for the last ones."""
        if not is_name(name) or name in self._deeds or not _are_takes(takes):
            raise NoName("no name, a deed's already, or no names to take")
        if not _are_plain(worths) or len(worths) > len(takes):
            raise NoWorth("no plain worths, or too many")
        if len(self._deeds) >= MOST_DEEDS:
            raise Full("too many deeds")
        told = looked(code)
        if told[0] != "right":
            raise NoCode(told)
        self._deeds[name] = (code, takes, worths)
        self._log.append(("deed", name, code, takes, worths))

    def kinds(self):
        """Tell all kinds, in the order of their making."""
        return list(self._elders)

    def line(self, name):
        """Tell the line of a kind."""
        self._need_kind(name)
        return list(self._lines[name])

    def below(self, name):
        """Tell the kinds below a kind, itself too, in the order of their making."""
        self._need_kind(name)
        return [other for other in self._elders if name in self._lines[other]]

    def version(self, name):
        """Tell the version of a kind."""
        self._need_kind(name)
        return self._versions[name]

    def picture(self, version):
        """Tell the picture of a version that was ever given."""
        # The document promises nothing of other numbers.
        if not is_whole(version) or not 0 <= version < len(self._pictures):
            raise NoKind("no kind ever had this version")
        kind, rows = self._pictures[version]
        return (kind, [(name, list(table.items())) for name, table in rows])

    def words(self, kind):
        """Tell the words of a kind with their worths."""
        self._need_kind(kind)
        return list(self._tables[kind].items())

    def own(self, n):
        """Tell the own words of a thing with their worths."""
        self._need_thing(n)
        return list(self._things[n][1].items())

    def found(self, kind, word):
        """Tell the first kind of a kind's line that has a word, with its worth, or None."""
        self._need_kind(kind)
        return self.first_with(self._lines[kind], word)

    def kind_of(self, n):
        """Tell the kind of a thing."""
        self._need_thing(n)
        return self._things[n][0]

    def shape(self, n):
        """Tell the own words of a thing."""
        self._need_thing(n)
        return tuple(self._things[n][1])

    def log(self):
        """Tell all changes, in order."""
        return list(self._log)

    def first_with(self, kinds, word):
        """Tell the first of these kinds that has a word of its own, with its worth, or None."""
        if not is_name(word):
            return None
        for kind in kinds:
            if word in self._tables[kind]:
                return (kind, self._tables[kind][word])
        return None

    def is_kind(self, name):
        """Tell whether this is the name of a kind."""
        return is_name(name) and name in self._elders

    def is_deed(self, name):
        """Tell whether this is the name of a deed."""
        return is_name(name) and name in self._deeds

    def is_full(self):
        """Tell whether there are as many things as may be."""
        return len(self._things) >= MOST_THINGS

    def knows(self, worth):
        """Tell whether this is a worth that tells of nothing that there isn't."""
        return is_worth(worth) and self._has(worth)

    def deed_parts(self, name):
        """Tell the code of a deed, the names that it takes, and the worths for the last ones."""
        return self._deeds[name]

    def kind_at(self, version):
        """Tell the kind whose version this is now, or None."""
        if not is_whole(version) or not 0 <= version < len(self._pictures) or version in self._ends:
            return None
        return self._pictures[version][0]

    def end_of(self, version):
        """Tell the number of the change that ended this version, or None."""
        return self._ends.get(version) if is_whole(version) else None

    def _need_kind(self, name):
        if not self.is_kind(name):
            raise NoKind("no kind")

    def _need_thing(self, n):
        if not is_whole(n) or not 0 <= n < len(self._things):
            raise NoThing("no thing")

    def _need_place(self, table, word, worth, most):
        """Refuse a word and a worth that can't stand in this table of at most so many."""
        if not is_name(word):
            raise NoName("no name")
        if not self.knows(worth):
            raise NoWorth("no worth, or one that tells of what there isn't")
        if word not in table and len(table) >= most:
            raise Full("too many words")

    def _elder_row(self, elders):
        """Tell these elders as a tuple: refused where they are not unlike kinds."""
        if not isinstance(elders, (tuple, list)) or not all([self.is_kind(elder) for elder in elders]):
            raise NoKind("an elder is no kind")
        row = tuple(elders)
        if any([row.count(elder) > 1 for elder in row]):
            raise NoKind("an elder stands twice")
        return row

    def _give_version(self, name):
        """Give a kind the next version, with its picture."""
        self._versions[name] = len(self._pictures)
        self._pictures.append((name, [(other, self._tables[other]) for other in self._lines[name]]))

    def _give_versions_below(self, name):
        """End the versions of a kind and all below it, by the change that is logged next."""
        for other in self.below(name):
            self._ends[self._versions[other]] = len(self._log)
            self._give_version(other)

    def _has(self, worth):
        """Tell whether all that this worth tells of is there."""
        if worth[0] == "kind":
            return worth[1] in self._elders
        if worth[0] == "thing":
            return worth[1] < len(self._things)
        if worth[0] == "deed":
            return worth[1] in self._deeds
        if worth[0] == "gate":
            return all([name in self._deeds for name in worth[1:] if name is not None])
        if worth[0] == "bound":
            return worth[1] in self._deeds and worth[2] in self._elders and self._has(worth[3])
        return True

    def _standing(self):
        """Tell all that two equal worlds have alike."""
        kinds = [(name, self._lines[name], list(self._tables[name].items())) for name in self._elders]
        things = [(kind, list(table.items())) for kind, table in self._things]
        return (kinds, things, self._deeds)


def world_of(changes):
    """Make a world by these changes: refused with NoChange at the first that can't be made."""
    if not isinstance(changes, (list, tuple)):
        raise NoChange(0)
    world = World()
    for number, change in enumerate(changes):
        if not _is_change(change):
            raise NoChange(number)
        try:
            _make(world, change)
        except KinError:
            raise NoChange(number) from None
    return world


def _without(table, word):
    """Tell this table less a word: refused with NoWord where it has none such."""
    if not is_name(word) or word not in table:
        raise NoWord("no such word")
    return {other: worth for other, worth in table.items() if other != word}


def _are_takes(takes):
    """Tell whether a deed can take these."""
    if not isinstance(takes, tuple) or len(takes) > MOST_TAKES:
        return False
    return all([is_name(name) and takes.count(name) == 1 for name in takes])


def _are_plain(worths):
    """Tell whether this is a tuple of plain worths."""
    return isinstance(worths, tuple) and all([is_plain(worth) for worth in worths])


def _make_kind(world, name, elders):
    world.kind(name, elders=elders)


def _make_turn(world, name, elders):
    world.turn(name, elders=elders)


def _make_put(world, kind, word, worth):
    world.put(kind, word, worth)


def _make_out(world, kind, word):
    world.out(kind, word)


def _make_thing(world, kind):
    world.thing(kind)


def _make_own(world, n, word, worth):
    world.lay(n, word, worth)


def _make_lift(world, n, word):
    world.lift(n, word)


def _make_deed(world, name, code, takes, worths):
    world.deed(name, code, takes=takes, worths=worths)


MAKERS = {
    "kind": _make_kind,
    "turn": _make_turn,
    "put": _make_put,
    "out": _make_out,
    "thing": _make_thing,
    "lay": _make_own,
    "lift": _make_lift,
    "deed": _make_deed,
}

# How many parts a change has, its word too.
PARTS = {"kind": 3, "turn": 3, "put": 4, "out": 3, "thing": 2, "lay": 4, "lift": 3, "deed": 5}


def _is_change(change):
    """Tell whether this is a tuple like those of the log, whether it can be made or not."""
    if not isinstance(change, tuple) or not change:
        return False
    if not isinstance(change[0], str) or len(change) != PARTS.get(change[0]):
        return False
    return change[0] not in ("kind", "turn") or isinstance(change[2], tuple)


def _make(world, change):
    """Make this change of the world."""
    word, *parts = change
    maker = MAKERS[word]
    maker(world, *parts)
