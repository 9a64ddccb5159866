"""The plain machine: it looks each word up anew."""

from swiftkin.looker import Looker
from swiftkin.runs import run_deed


class Plain:
    """A plain machine of a world."""

    def __init__(self, world):
        self._world = world
        self._looker = Looker(world)

    def run(self, deed, arguments=(), *, most=400):
        """Run a deed with arguments and a bound of steps: tell its end, and the steps."""
        return run_deed(self._world, self._looker, deed, arguments, most)

    def looks(self):
        """Tell how many tables the machine has looked at in all."""
        return self._looker.many
