"""A second way of finding all that stands in a world, by the words of [6], [7] and [8].

It keeps little: what each change tells is worked out anew when it is asked for.
"""

import re

from test_lines import line_by_the_words
from test_worths import another_way


def is_text_name(thing):
    return type(thing) is str and re.fullmatch("[a-z]{1,8}", thing) is not None


def is_number(thing):
    return type(thing) is int


class Refused(Exception):
    """A change that is refused, by the name of the class of the refusal."""

    def __init__(self, name, *more):
        super().__init__(name, *more)
        self.name = name
        self.more = more


class SecondWorld:
    def __init__(self):
        self.kin = []        # [name, elders, version]
        self.rows = []       # [kind, word, worth], in the order in which they came
        self.laid = []       # [n, word, worth], likewise
        self.kind_of = []
        self.deeds = {}
        self.log = []
        self.pictures = []   # by version
        self.ends = {}

    # What stands.

    def kinds(self):
        return [name for name, _, _ in self.kin]

    def elders(self, name):
        return [elders for other, elders, _ in self.kin if other == name][0]

    def line(self, name, elders=None):
        """Tell the line, or None where it or one of its elders has none."""
        own = (elders or {}).get(name, None)
        own = self.elders(name) if own is None else own
        rows = [self.line(elder, elders) for elder in own]
        if None in rows:
            return None
        merged = line_by_the_words(rows + [list(own)])
        return None if merged is None else [name] + merged

    def below(self, name):
        return [other for other in self.kinds() if name in self.line(other)]

    def version(self, name):
        return [version for other, _, version in self.kin if other == name][0]

    def words(self, kind):
        return [(word, worth) for other, word, worth in self.rows if other == kind]

    def own(self, n):
        return [(word, worth) for other, word, worth in self.laid if other == n]

    def shape(self, n):
        return tuple(word for word, _ in self.own(n))

    def found(self, kind, word):
        return self.found_in(self.line(kind), word)

    def found_in(self, names, word):
        for name in names:
            for other, worth in self.words(name):
                if other == word:
                    return (name, worth)
        return None

    def has(self, worth):
        """Tell whether this is a worth of what there is."""
        if not another_way(worth)[0]:
            return False
        sort = worth[0]
        if sort == "kind":
            return worth[1] in self.kinds()
        if sort == "thing":
            return worth[1] in range(len(self.kind_of))
        if sort == "deed":
            return worth[1] in self.deeds
        if sort == "gate":
            return all(name is None or name in self.deeds for name in worth[1:])
        if sort == "bound":
            return self.has(("deed", worth[1])) and self.has(("kind", worth[2])) and self.has(worth[3])
        return True

    def standing(self):
        return (
            [(name, self.line(name), self.words(name)) for name in self.kinds()],
            [(kind, self.own(n)) for n, kind in enumerate(self.kind_of)],
            self.deeds,
        )

    # What changes.

    def change(self, change):
        """Make a change like those of the log; raise Refused where it is refused."""
        getattr(self, "do_" + change[0])(*change[1:])
        self.log.append(change)

    def need_kind(self, name):
        if not is_text_name(name) or name not in self.kinds():
            raise Refused("NoKind")

    def need_elders(self, elders):
        for elder in elders:
            self.need_kind(elder)
        if len(set(elders)) < len(elders):
            raise Refused("NoKind")
        if len(elders) > 4:
            raise Refused("Full")

    def need_line(self, elders):
        """Refuse where a kind has no line by these elders; elders is by name."""
        for name in elders:
            if self.line(name, elders) is None:
                rows = [self.line(elder, elders) for elder in elders[name]]
                if None not in rows:
                    raise Refused("NoLine", name, rows + [list(elders[name])])

    def do_kind(self, name, elders):
        if not is_text_name(name) or name in self.kinds():
            raise Refused("NoName")
        self.need_elders(elders)
        if len(self.kin) == 12:
            raise Refused("Full")
        self.need_line({**{other: row for other, row, _ in self.kin}, name: elders})
        self.kin.append([name, elders, None])
        self.next_version(name)

    def do_turn(self, name, elders):
        self.need_kind(name)
        self.need_elders(elders)
        if any(name in self.line(elder) for elder in elders):
            raise Refused("Round")
        self.need_line({**{other: row for other, row, _ in self.kin}, name: elders})
        for row in self.kin:
            if row[0] == name:
                row[1] = elders
        self.next_versions(name)

    def do_put(self, kind, word, worth):
        self.need_kind(kind)
        if not is_text_name(word):
            raise Refused("NoName")
        if not self.has(worth):
            raise Refused("NoWorth")
        if len([other for other, _ in self.words(kind) if other != word]) == 12:
            raise Refused("Full")
        self.set_row(self.rows, kind, word, worth)
        self.next_versions(kind)

    def do_out(self, kind, word):
        self.need_kind(kind)
        if word not in [other for other, _ in self.words(kind)]:
            raise Refused("NoWord")
        self.rows = [row for row in self.rows if row[:2] != [kind, word]]
        self.next_versions(kind)

    def do_thing(self, kind):
        self.need_kind(kind)
        if len(self.kind_of) == 60:
            raise Refused("Full")
        self.kind_of.append(kind)

    def need_thing(self, n):
        if not is_number(n) or n not in range(len(self.kind_of)):
            raise Refused("NoThing")

    def do_lay(self, n, word, worth):
        self.need_thing(n)
        if not is_text_name(word):
            raise Refused("NoName")
        if not self.has(worth):
            raise Refused("NoWorth")
        if len([other for other, _ in self.own(n) if other != word]) == 8:
            raise Refused("Full")
        self.set_row(self.laid, n, word, worth)

    def do_lift(self, n, word):
        self.need_thing(n)
        if word not in [other for other, _ in self.own(n)]:
            raise Refused("NoWord")
        self.laid = [row for row in self.laid if row[:2] != [n, word]]

    def do_deed(self, name, code, takes, worths):
        """Make a deed: that its code is right is not asked here."""
        if not is_text_name(name) or name in self.deeds:
            raise Refused("NoName")
        if len(takes) > 4 or len(set(takes)) < len(takes) or not all(map(is_text_name, takes)):
            raise Refused("NoName")
        if len(worths) > len(takes) or not all(another_way(worth)[1] for worth in worths):
            raise Refused("NoWorth")
        if len(self.deeds) == 12:
            raise Refused("Full")
        self.deeds[name] = (code, takes, worths)

    def set_row(self, rows, owner, word, worth):
        for row in rows:
            if row[:2] == [owner, word]:
                row[2] = worth
                return
        rows.append([owner, word, worth])

    def next_versions(self, name):
        for other in self.below(name):
            self.ends[self.version(other)] = len(self.log)
            self.next_version(other)

    def next_version(self, name):
        for row in self.kin:
            if row[0] == name:
                row[2] = len(self.pictures)
        self.pictures.append((name, [(other, self.words(other)) for other in self.line(name)]))
