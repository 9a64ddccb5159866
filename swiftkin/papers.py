"""Papers: what a read, or a special place of a quick machine, goes by, judged by the world."""

from swiftkin.errors import NoWorth
from swiftkin.finds import is_deed, is_gate, is_writer
from swiftkin.places import place_word
from swiftkin.world import MOST_OWN
from swiftkin.worths import is_just, is_name, is_whole


def paper(world, worth, word):
    """Tell the paper of a read of a word of this thing or kind."""
    if not world.knows(worth) or worth[0] not in ("thing", "kind"):
        raise NoWorth("no thing or kind of the world")
    shape = world.shape(worth[1]) if worth[0] == "thing" else None
    kind = world.kind_of(worth[1]) if worth[0] == "thing" else worth[1]
    line = world.line(kind)
    found = world.found(kind, word)
    at = None if found is None else line.index(found[0])
    sort = _sort_of_kind(found) if shape is None else _sort_of_thing(found, shape, word)
    return (line, at, sort, shape)


def is_paper(world, worth, word, told):
    """Tell whether this is right now as the paper of a read."""
    return is_just(told, paper(world, worth, word))


def is_special(world, special):
    """Tell whether this is right now as the paper of a special place."""
    if not isinstance(special, tuple) or len(special) != 5:
        return False
    deed, at, number, guard, found = special
    row = _row(world, deed, at)
    if row is None or not is_whole(number) or place_word(row, number) is None:
        return False
    if not isinstance(guard, tuple) or len(guard) not in (2, 3):
        return False
    kind = world.kind_at(guard[1])
    if kind is None:
        return False
    now = world.first_with(_looked_at(world.line(kind), row, guard), place_word(row, number))
    return is_just(found, now) and _is_guard(row, number, guard, now)


def ended(world, version):
    """Tell the number of the change that ended this version, or None."""
    return world.end_of(version)


def _sort_of_kind(found):
    """Tell the sort of a read of a kind."""
    return "missing" if found is None else "worth"


def _sort_of_thing(found, shape, word):
    """Tell the sort of a read of a thing of this shape."""
    if is_writer(found):
        return "writer"
    if word in shape:
        return "own"
    if is_gate(found):
        return "gate"
    if is_deed(found):
        return "deed"
    return _sort_of_kind(found)


def _row(world, deed, at):
    """Tell the row of this number of a deed, or None."""
    if not world.is_deed(deed) or not is_whole(at):
        return None
    rows = world.deed_parts(deed)[0][0]
    return rows[at] if 0 <= at < len(rows) else None


def _looked_at(line, row, guard):
    """Tell the kinds of this line that the look of a row with this guard looks at."""
    if row[0] != "above":
        return line
    home = guard[-1]
    return line[line.index(home) + 1:] if home in line else []


def _is_guard(row, number, guard, found):
    """Tell whether the look of this number of a row can have this guard where it finds this."""
    if number > 0 or row[0] not in ("read", "write", "above"):
        return guard[0] == "word" and len(guard) == 2
    if row[0] == "above":
        # Nothing is found behind what is no home in the line.
        return guard[0] == "above" and len(guard) == 3 and found is not None
    if guard[0] == "kind":
        return row[0] == "read" and len(guard) == 2 and found is not None
    return guard[0] == "thing" and _is_guard_of_thing(row, guard, found)


def _is_guard_of_thing(row, guard, found):
    """Tell whether a read or write of a thing can have this guard where it finds this."""
    if is_writer(found):
        return len(guard) == 2
    if len(guard) != 3 or not _is_shape(guard[2]):
        return False
    return row[0] == "write" or row[1] in guard[2] or found is not None


def _is_shape(names):
    """Tell whether things can have this shape."""
    if not isinstance(names, tuple) or len(names) > MOST_OWN:
        return False
    return all([is_name(name) and names.count(name) == 1 for name in names])
