"""How a plain machine looks: at the tables themselves, each time anew."""


class Looker:
    """Looks at the tables of a world, and counts them."""

    def __init__(self, world):
        self._world = world
        self.many = 0

    def in_kind(self, kind, word):
        """Tell what is found in a kind, or None."""
        return self._first(self._world.line(kind), word)

    def behind(self, kind, home, word):
        """Tell what is found behind this home in the line of a kind, or None."""
        line = self._world.line(kind)
        return self._first(line[line.index(home) + 1:], word)

    def in_thing(self, n, word):
        """Tell the worth of a thing's own word, or None."""
        self.many += 1
        return dict(self._world.own(n)).get(word)

    def _first(self, kinds, word):
        """Tell the first of these kinds that has a word, looking no further."""
        found = self._world.first_with(kinds, word)
        self.many += len(kinds) if found is None else kinds.index(found[0]) + 1
        return found
