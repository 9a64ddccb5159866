"""Runs: deeds called within one another, row by row, up to a bound of steps."""

from swiftkin.code import first_guard
from swiftkin.errors import NoDeed, NoSteps, NoWorth
from swiftkin.falls import Fall, Tired
from swiftkin.finds import is_deed
from swiftkin.places import place_word
from swiftkin.rows import ACTIONS
from swiftkin.worths import is_whole

MOST_CALLS = 12
MOST_GIVEN = 8
MOST_STEPS = 400


def run_deed(world, looker, deed, arguments, most):
    """Run a deed, looking by this looker, and tell its end and how many steps it took."""
    if not world.is_deed(deed):
        raise NoDeed("no deed")
    need_given(world, arguments, most)
    run = Run(world, looker, most)
    end = run.ended(deed, arguments)
    return (end, run.steps)


def need_given(world, arguments, most):
    """Refuse what can't be the arguments and the bound of a run."""
    if not isinstance(arguments, tuple) or len(arguments) > MOST_GIVEN:
        raise NoWorth("no tuple of worths, or too many")
    if not all([world.knows(worth) for worth in arguments]):
        raise NoWorth("no worth, or one that tells of what there isn't")
    if not is_whole(most) or not 0 <= most <= MOST_STEPS:
        raise NoSteps("no bound of steps")


class Frame:
    """A call under way: the row that it is at, its stack, and what its locals are."""

    def __init__(self, name, code, known, home):
        self.name = name
        self.code = code
        self.known = known
        self.home = home
        self.stack = []
        self.at = 0
        self.after = 0
        self.gave = None

    def row(self):
        """Tell the row that the call is at."""
        return self.code[0][self.at]

    def taken(self, many):
        """Take so many off the stack, and tell them, the upper one last."""
        worths = self.stack[-many:]
        del self.stack[-many:]
        return worths

    def catch(self, guard, word):
        """Go on behind a fall as this guard says."""
        del self.stack[guard[3]:]
        self.stack.append(("text", word))
        self.at = guard[2]


class Run:
    """One run of a deed, with all calls that are under way."""

    def __init__(self, world, looker, most):
        self.world = world
        self.looker = looker
        self.steps = 0
        self._most = most
        self._frames = []

    def ended(self, deed, arguments):
        """Run the deed to its end, and tell this."""
        try:
            worth = self.call_deed(deed, arguments, None)
        except Fall as fall:
            return ("fell", fall.word, self._trail())
        except Tired:
            return ("tired", self._trail())
        return ("gave", worth)

    def frame(self):
        """Tell the innermost call."""
        return self._frames[-1]

    def kind_of(self, thing):
        """Tell the kind of this thing."""
        return self.world.kind_of(thing[1])

    def look(self, number, kind):
        """Make the look of this number of the row that the innermost call is at, in a kind."""
        return self.looker.in_kind(kind, place_word(self.frame().row(), number))

    def call_worth(self, worth, given):
        """Call this worth, and tell what the call gives."""
        if worth[0] == "deed":
            return self.call_deed(worth[1], given, None)
        if worth[0] == "bound":
            return self.call_deed(worth[1], (worth[3],) + given, worth[2])
        if worth[0] == "kind":
            return self._call_kind(worth[1], given)
        raise Fall("nocall")

    def call_found(self, found, given):
        """Call the deed that was found by its word in a kind."""
        return self.call_deed(found[1][1], given, found[0])

    def call_deed(self, name, given, home):
        """Call a deed, found in this home or in none."""
        self._need_depth()
        self._need_takes(name, len(given))
        return self._done(name, given, home)

    def _call_kind(self, kind, given):
        """Make a thing of a kind, begin it where the kind tells how, and tell the thing."""
        begin = self.look(0, kind)
        if is_deed(begin):
            self._need_depth()
        if self.world.is_full():
            raise Fall("full")
        if is_deed(begin):
            self._need_takes(begin[1][1], len(given) + 1)
        elif given:
            raise Fall("takes")
        thing = ("thing", self.world.thing(kind))
        if is_deed(begin):
            self._done(begin[1][1], (thing,) + given, begin[0])
        return thing

    def _need_depth(self):
        """Fall where as many calls as may be are under way."""
        if len(self._frames) >= MOST_CALLS:
            raise Fall("deep")

    def _need_takes(self, name, many):
        """Fall where a deed can't take so many arguments."""
        _, takes, worths = self.world.deed_parts(name)
        if not len(takes) - len(worths) <= many <= len(takes):
            raise Fall("takes")

    def _done(self, name, given, home):
        """Do a call that can be made, row by row, and tell what it gives."""
        code, takes, worths = self.world.deed_parts(name)
        missing = len(takes) - len(given)
        known = dict(zip(takes, given + worths[len(worths) - missing:]))
        frame = Frame(name, code, known, home)
        self._frames.append(frame)
        depth = len(self._frames)
        while frame.gave is None:
            try:
                self._step(frame)
            except Fall as fall:
                guard = first_guard(code, frame.at)
                if guard is None:
                    raise
                # Calls within that fell stand until here, so that a fall that
                # nothing catches has its trail.
                del self._frames[depth:]
                frame.catch(guard, fall.word)
        self._frames.pop()
        return frame.gave

    def _step(self, frame):
        """Begin the row that a call is at, and do it."""
        if self.steps >= self._most:
            raise Tired()
        self.steps += 1
        row = frame.row()
        frame.after = frame.at + 1
        action = ACTIONS[row[0]]
        action(self, frame, row)
        frame.at = frame.after

    def _trail(self):
        """Tell each call under way with the row that it is at, the outermost first."""
        return tuple([(frame.name, frame.at) for frame in self._frames])
