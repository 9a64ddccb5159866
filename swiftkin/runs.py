"""Runs: deeds called within one another, row by row, up to a bound of steps."""

from swiftkin.code import first_guard
from swiftkin.errors import NoDeed, NoSteps, NoWorth
from swiftkin.falls import Fall, Tired
from swiftkin.finds import is_deed
from swiftkin.places import place_word
from swiftkin.rows import ACTIONS
from swiftkin.worths import is_whole

MOST_CALLS = 12
MOST_GIVEN = 8
MOST_STEPS = 400


def run_deed(world, looker, deed, arguments, most):
    """Run a deed, looking by this looker, and tell its end and how many steps it took."""
    if not world.is_deed(deed):
        raise NoDeed("no deed")
    need_given(world, arguments, most)
    looker.begin()
    run = Run(world, looker, most)
    end = run.ended(deed, arguments)
    return (end, run.steps)


def need_given(world, arguments, most):
    """Refuse what can't be the arguments and the bound of a run."""
    if not isinstance(arguments, tuple) or len(arguments) > MOST_GIVEN:
        raise NoWorth("no tuple of worths, or too many")
    if not all([world.knows(worth) for worth in arguments]):
        raise NoWorth("no worth, or one that tells of what there isn't")
    if not is_whole(most) or not 0 <= most <= MOST_STEPS:
        raise NoSteps("no bound of steps")


def need_takes(takes, worths, many):
    """Fall where what takes these, the last ones with worths, can't take so many arguments."""
    if not len(takes) - len(worths) <= many <= len(takes):
        raise Fall("takes")


def known_by(takes, worths, given):
    """Tell the locals that a call begins with, those left out by the last of the worths."""
    missing = len(takes) - len(given)
    return dict(zip(takes, given + worths[len(worths) - missing:]))


class Frame:
    """A call under way: what it is at, its stack, and what its locals are."""

    def __init__(self, name, known, home):
        self.name = name
        self.known = known
        self.home = home
        self.stack = []
        # The number of the row that it is at, or the place of the node, and this row.
        self.at = 0
        self.row = None
        self.after = 0
        self.gave = None

    def taken(self, many):
        """Take so many off the stack, and tell them, the upper one last."""
        worths = self.stack[-many:]
        del self.stack[-many:]
        return worths

    def cut(self, height):
        """Leave no more than so many on the stack."""
        del self.stack[height:]


class Run:
    """One run of a deed, with all calls that are under way."""

    def __init__(self, world, looker, most):
        self.world = world
        self.looker = looker
        self.steps = 0
        self._most = most
        self._frames = []

    def ended(self, deed, arguments):
        """Run the deed to its end, and tell this."""
        try:
            worth = self.call_deed(deed, arguments, None)
        except Fall as fall:
            return ("fell", fall.word, self.trail())
        except Tired:
            return ("tired", self.trail())
        return ("gave", worth)

    def frame(self):
        """Tell the innermost call."""
        return self._frames[-1]

    def enter(self, frame):
        """Begin this call within the others, and tell how many are under way then."""
        self._frames.append(frame)
        return len(self._frames)

    def leave(self):
        """End the innermost call."""
        self._frames.pop()

    def end_within(self, depth):
        """End all calls but the outermost ones, so many of them."""
        del self._frames[depth:]

    def count_step(self):
        """Count a step that is begun, if the bound lets it."""
        if self.steps >= self._most:
            raise Tired()
        self.steps += 1

    def do(self, frame, row):
        """Do what this row does in the innermost call."""
        frame.row = row
        action = ACTIONS[row[0]]
        action(self, frame, row)

    def trail(self):
        """Tell each call under way with what it is at, the outermost first."""
        return tuple([(frame.name, frame.at) for frame in self._frames])

    def kind_of(self, thing):
        """Tell the kind of this thing."""
        return self.world.kind_of(thing[1])

    def place_of(self, number):
        """Tell the place of the look of this number of the row that the innermost call is at."""
        frame = self.frame()
        return (frame.name, frame.at, number)

    def look(self, number, kind):
        """Look in a kind for the word that the look of this number of the row is for, not the row's own."""
        return self.looker.by_word(self.place_of(number), kind, place_word(self.frame().row, number))

    def call_worth(self, worth, given):
        """Call this worth, and tell what the call gives."""
        if worth[0] == "deed":
            return self.call_deed(worth[1], given, None)
        if worth[0] == "bound":
            return self.call_deed(worth[1], (worth[3],) + given, worth[2])
        if worth[0] == "kind":
            return self._call_kind(worth[1], given)
        raise Fall("nocall")

    def call_found(self, found, given):
        """Call the deed that was found by its word in a kind."""
        return self.call_deed(found[1][1], given, found[0])

    def call_deed(self, name, given, home):
        """Call a deed, found in this home or in none."""
        self._need_depth()
        self._need_taken(name, len(given))
        return self._done(name, given, home)

    def _call_kind(self, kind, given):
        """Make a thing of a kind, begin it where the kind tells how, and tell the thing."""
        begin = self.look(0, kind)
        if is_deed(begin):
            self._need_depth()
        if self.world.is_full():
            raise Fall("full")
        if is_deed(begin):
            self._need_taken(begin[1][1], len(given) + 1)
        elif given:
            raise Fall("takes")
        thing = ("thing", self.world.thing(kind))
        if is_deed(begin):
            self._done(begin[1][1], (thing,) + given, begin[0])
        return thing

    def _need_depth(self):
        """Fall where as many calls as may be are under way."""
        if len(self._frames) >= MOST_CALLS:
            raise Fall("deep")

    def _need_taken(self, name, many):
        """Fall where a deed can't take so many arguments."""
        _, takes, worths = self.world.deed_parts(name)
        need_takes(takes, worths, many)

    def _done(self, name, given, home):
        """Do a call that can be made, row by row, and tell what it gives."""
        code, takes, worths = self.world.deed_parts(name)
        frame = Frame(name, known_by(takes, worths, given), home)
        depth = self.enter(frame)
        while frame.gave is None:
            try:
                self._step(frame, code[0])
            except Fall as fall:
                guard = first_guard(code, frame.at)
                if guard is None:
                    raise
                # Calls within that fell stand until here, so that a fall that
                # nothing catches has its trail.
                self.end_within(depth)
                frame.cut(guard[3])
                frame.stack.append(("text", fall.word))
                frame.at = guard[2]
        self.leave()
        return frame.gave

    def _step(self, frame, rows):
        """Begin the row that a call is at, and do it."""
        self.count_step()
        frame.after = frame.at + 1
        self.do(frame, rows[frame.at])
        frame.at = frame.after
