"""How a plain machine looks: at the tables themselves, each time anew.

Each look of a row tells its place, (deed, row, number), and what it is for; a quick
machine remembers by the place, a plain one does not ask for it.
"""

from swiftkin.finds import is_writer


class Looker:
    """Looks at the tables of a world, and counts them."""

    def __init__(self, world):
        self._world = world
        self.many = 0

    def begin(self):
        """Begin a run: for a plain machine each one is alike."""
        pass

    def calm(self):
        """Forget all: a plain machine remembers nothing."""
        pass

    def by_word(self, place, kind, word):
        """Look for missing, begin, or a word of an operator, of size or of truth."""
        return self.in_kind(kind, word)

    def read_kind(self, place, kind, word):
        """Look for a word of a kind that is read."""
        return self.in_kind(kind, word)

    def read_thing(self, place, n, word):
        """Look for a word of a thing that is read: tell what is found in its kind, and the own worth."""
        return self._of_thing(n, word)

    def write_thing(self, place, n, word):
        """Look for a word of a thing that is written: tell what is found in its kind."""
        return self._of_thing(n, word)[0]

    def behind(self, place, n, home, word):
        """Look for a word behind this home in the line of a thing's kind."""
        line = self._world.line(self._world.kind_of(n))
        return self._first(line[line.index(home) + 1:], word)

    def in_kind(self, kind, word):
        """Tell what is found in a kind, or None. The look of a drop is no more than this: it has no place."""
        return self._first(self._world.line(kind), word)

    def _of_thing(self, n, word):
        """Tell what is found in a thing's kind, and the worth of its own word, if this may be looked for."""
        found = self.in_kind(self._world.kind_of(n), word)
        return (found, None if is_writer(found) else self._in_thing(n, word))

    def _in_thing(self, n, word):
        """Tell the worth of a thing's own word, or None."""
        self.many += 1
        return dict(self._world.own(n)).get(word)

    def _first(self, kinds, word):
        """Tell the first of these kinds that has a word, looking no further."""
        found = self._world.first_with(kinds, word)
        self.many += len(kinds) if found is None else kinds.index(found[0]) + 1
        return found
