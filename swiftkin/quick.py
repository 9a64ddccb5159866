"""The quick machine: it remembers what it found, and looks as little as it can."""

from swiftkin.errors import NoPaper
from swiftkin.memory import Memory
from swiftkin.papers import is_special
from swiftkin.runs import run_deed


class Quick:
    """A quick machine of a world, which keeps so many answers."""

    def __init__(self, world, *, answers=8):
        self._world = world
        self._memory = Memory(world, answers)

    def run(self, deed, arguments=(), *, most=400):
        """Run a deed with arguments and a bound of steps: tell its end, and the steps."""
        return run_deed(self._world, self._memory, deed, arguments, most)

    def looks(self):
        """Tell how many tables the machine has looked at in all."""
        return self._memory.many

    def hits(self):
        """Tell how many looks a special place let by."""
        return self._memory.let_by

    def misses(self):
        """Tell how many looks a special place did not let by."""
        return self._memory.missed

    def state(self, deed, row, number):
        """Tell the state of a place."""
        return self._memory.state_at((deed, row, number))

    def answers(self):
        """Tell the answers that are kept, the one asked longest ago first."""
        return self._memory.answers()

    def visits(self):
        """Tell the visits of the last run, in order."""
        return self._memory.visits()

    def papers(self):
        """Tell the papers of all special places, sorted by place."""
        return self._memory.specials()

    def take(self, paper):
        """Make a place special by its paper: refused with NoPaper where this is not right now."""
        if not is_special(self._world, paper):
            raise NoPaper("no paper that is right now")
        deed, row, number, guard, found = paper
        self._memory.make_special((deed, row, number), guard, found)
