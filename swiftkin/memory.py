"""How a quick machine looks: by what it remembers, and only else at the tables."""

from swiftkin.finds import is_writer
from swiftkin.looker import Looker
from swiftkin.states import COLD, after_look, is_special_state, special_by


class Memory(Looker):
    """Looks as a plain machine does, but keeps answers, and at each place what was found there."""

    def __init__(self, world, most):
        super().__init__(world)
        self.let_by = 0
        self.missed = 0
        self._most = most
        # (version, word, found), the one asked longest ago first.
        self._answers = []
        # Of each place that was visited: its state. What the look that made it
        # special found stands beside it, as long as it is special.
        self._states = {}
        self._founds = {}
        self._visits = []

    def begin(self):
        """Begin a run: its visits are told from now on."""
        self._visits = []

    def calm(self):
        """Forget all but what was counted."""
        self._answers = []
        self._states = {}
        self._founds = {}

    def answers(self):
        """Tell the answers, the one asked longest ago first."""
        return list(self._answers)

    def visits(self):
        """Tell the visits of the last run, in order."""
        return list(self._visits)

    def state_at(self, place):
        """Tell the state of a place, or of what is none."""
        return self._states.get(place, COLD)

    def specials(self):
        """Tell all special places, sorted, each with its guard and what was found there."""
        return [place + (self.state_at(place)[1], self._founds[place]) for place in sorted(list(self._founds))]

    def make_special(self, place, guard, found):
        """Make a place special by this guard, and by what was found with it."""
        self._states[place] = special_by(guard)
        self._founds[place] = found

    def by_word(self, place, kind, word):
        """Look for missing, begin, or a word of an operator, of size or of truth."""
        guard = ("word", self._world.version(kind))
        if self._is_hit(place, (guard,)):
            return self._founds[place]
        found = super().by_word(place, kind, word)
        self._settle(place, guard, found)
        return found

    def read_kind(self, place, kind, word):
        """Look for a word of a kind that is read."""
        guard = ("kind", self._world.version(kind))
        if self._is_hit(place, (guard,)):
            return self._founds[place]
        found = super().read_kind(place, kind, word)
        self._settle(place, None if found is None else guard, found)
        return found

    def read_thing(self, place, n, word):
        """Look for a word of a thing that is read: tell what is found in its kind, and the own worth."""
        if self._is_hit(place, self._guards_of_thing(n)):
            return (self._founds[place], self._own_at_hit(place, n, word))
        found, own = super().read_thing(place, n, word)
        told = found is not None or own is not None
        self._settle(place, self._guard_of_thing(n, found) if told else None, found)
        return (found, own)

    def write_thing(self, place, n, word):
        """Look for a word of a thing that is written: tell what is found in its kind."""
        if self._is_hit(place, self._guards_of_thing(n)):
            return self._founds[place]
        found = super().write_thing(place, n, word)
        self._settle(place, self._guard_of_thing(n, found), found)
        return found

    def behind(self, place, n, home, word):
        """Look for a word behind this home in the line of a thing's kind."""
        guard = ("above", self._version_of(n), home)
        if self._is_hit(place, (guard,)):
            return self._founds[place]
        found = super().behind(place, n, home, word)
        self._settle(place, None if found is None else guard, found)
        return found

    def in_kind(self, kind, word):
        """Tell what is found in a kind, or None, by the answer that is kept, if there is one."""
        version = self._world.version(kind)
        for answer in list(self._answers):
            if answer[:2] == (version, word):
                self._answers.remove(answer)
                self._answers.append(answer)
                return answer[2]
        found = super().in_kind(kind, word)
        self._answers.append((version, word, found))
        if len(self._answers) > self._most:
            self._answers.pop(0)
        return found

    def _version_of(self, n):
        """Tell the version of a thing's kind."""
        return self._world.version(self._world.kind_of(n))

    def _guards_of_thing(self, n):
        """Tell the guards of a read or write that let a thing by."""
        version = self._version_of(n)
        return (("thing", version), ("thing", version, self._world.shape(n)))

    def _guard_of_thing(self, n, found):
        """Tell the guard of a read or write of a thing in whose kind this is found."""
        one, shaped = self._guards_of_thing(n)
        return one if is_writer(found) else shaped

    def _own_at_hit(self, place, n, word):
        """Tell the worth of a thing's own word, by the word's place in the shape that the guard has."""
        guard = self.state_at(place)[1]
        if len(guard) == 2 or word not in guard[2]:
            return None
        return self._world.own(n)[guard[2].index(word)][1]

    def _is_hit(self, place, guards):
        """Tell whether the place is special by one of these guards; if so it is a hit."""
        state = self.state_at(place)
        if not is_special_state(state) or state[1] not in guards:
            return False
        self.let_by += 1
        self._visits.append(place + (state[1], True))
        return True

    def _settle(self, place, guard, found):
        """Settle a place behind a look with this guard, or with none, that found this."""
        before = self.state_at(place)
        after = after_look(before, guard)
        self._visits.append(place + (guard, False))
        self._states[place] = after
        if is_special_state(before):
            self.missed += 1
        if not is_special_state(after):
            self._founds.pop(place, None)
        elif not is_special_state(before):
            self._founds[place] = found
