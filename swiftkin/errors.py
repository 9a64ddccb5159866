"""The refusals: each is a KinError, and none is another one."""


def _copied(thing):
    """Tell this thing with new lists in the place of its lists."""
    if isinstance(thing, list):
        return [_copied(part) for part in thing]
    if isinstance(thing, tuple):
        return tuple([_copied(part) for part in thing])
    return thing


class KinError(ValueError):
    """Any refusal."""


# Python keeps what an error is made of until its base is given something else.
# So each refusal that is made of lists gives its base a text: no list of the
# asker's is kept.


class NoLine(KinError):
    """The kind of this name gets no line: the ring shows that the rows have none."""

    def __init__(self, name, rows, ring):
        super().__init__(f"no line for {name}")
        self.name = name
        self.rows = _copied(rows)
        self.ring = _copied(ring)


class NoCode(KinError):
    """A code that is not right, with what is told of it."""

    def __init__(self, told):
        super().__init__("the code is not right")
        self.told = _copied(told)


class NoSource(KinError):
    """A source whose token at this place can't stand there."""

    def __init__(self, place):
        super().__init__(f"no source from token {place} on")
        self.place = place


class NoChange(KinError):
    """A list of changes whose change of this number can't be made."""

    def __init__(self, number):
        super().__init__(f"change {number} can't be made")
        self.number = number


class NoName(KinError):
    """What is no name, or a name that is taken."""


class NoKind(KinError):
    """What is no kind."""


class NoThing(KinError):
    """What is no thing."""


class NoDeed(KinError):
    """What is no deed."""


class NoWord(KinError):
    """A word that isn't there."""


class NoWorth(KinError):
    """What is no worth, or tells of what there isn't."""


class NoSteps(KinError):
    """What is no bound of steps."""


class NoPaper(KinError):
    """A paper that is not right."""


class Round(KinError):
    """A kind that would be its own elder."""


class Full(KinError):
    """No more of these may be."""


class TooBig(KinError):
    """A source that is too big."""
