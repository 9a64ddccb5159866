"""What each row of code does with the stack of the call that it is in."""

from swiftkin.errors import NoKind, NoLine, Round
from swiftkin.falls import Fall
from swiftkin.sides import added, alike, is_true, lesser, size
from swiftkin.words import above, drop, read, write


def _push(run, frame, row):
    frame.stack.append(row[1])


def _kind(run, frame, row):
    if not run.world.is_kind(row[1]):
        raise Fall("nokind")
    frame.stack.append(row)


def _deed(run, frame, row):
    if not run.world.is_deed(row[1]):
        raise Fall("nodeed")
    frame.stack.append(row)


def _get(run, frame, row):
    if row[1] not in frame.known:
        raise Fall("nolocal")
    frame.stack.append(frame.known[row[1]])


def _let(run, frame, row):
    frame.known[row[1]] = frame.stack.pop()


def _read(run, frame, row):
    frame.stack.append(read(run, frame.stack.pop(), row[1]))


def _write(run, frame, row):
    asked, worth = frame.taken(2)
    write(run, asked, row[1], worth)


def _drop(run, frame, row):
    drop(run, frame.stack.pop(), row[1])


def _above(run, frame, row):
    frame.stack.append(above(run, frame.stack.pop(), row[1]))


def _call(run, frame, row):
    worth, *given = frame.taken(row[1] + 1)
    frame.stack.append(run.call_worth(worth, tuple(given)))


def _add(run, frame, row):
    one, other = frame.taken(2)
    frame.stack.append(added(run, one, other))


def _less(run, frame, row):
    one, other = frame.taken(2)
    frame.stack.append(lesser(run, one, other))


def _same(run, frame, row):
    one, other = frame.taken(2)
    frame.stack.append(alike(run, one, other))


def _size(run, frame, row):
    frame.stack.append(size(run, frame.stack.pop()))


def _elders(run, frame, row):
    worths = frame.taken(row[1] + 1)
    if not all([worth[0] == "kind" for worth in worths]):
        raise Fall("nokind")
    name, *elders = [worth[1] for worth in worths]
    try:
        run.world.turn(name, elders=elders)
    except NoKind:
        raise Fall("nokind") from None
    except Round:
        raise Fall("round") from None
    except NoLine:
        raise Fall("noline") from None


def _jump(run, frame, row):
    frame.after = row[1]


def _unless(run, frame, row):
    if not is_true(run, frame.stack.pop()):
        frame.after = row[1]


def _calm(run, frame, row):
    run.looker.calm()


def _give(run, frame, row):
    frame.gave = frame.stack.pop()


ACTIONS = {
    "push": _push,
    "kind": _kind,
    "deed": _deed,
    "get": _get,
    "let": _let,
    "read": _read,
    "write": _write,
    "drop": _drop,
    "above": _above,
    "call": _call,
    "add": _add,
    "less": _less,
    "same": _same,
    "size": _size,
    "elders": _elders,
    "jump": _jump,
    "unless": _unless,
    "calm": _calm,
    "give": _give,
}
