"""How the steps of a source are read."""

from swiftkin.errors import NoSource
from swiftkin.sums import read_part, read_sum, read_sum_from


def read_block(reader):
    """Read a block, and tell its steps."""
    reader.take("{")
    steps = []
    while reader.next_sort() != "}":
        steps.append(_read_step(reader))
    reader.take("}")
    return tuple(steps)


def _read_step(reader):
    """Read a step."""
    sort = reader.next_sort()
    if sort not in STEPS:
        return _read_sum_step(reader)
    read_one = STEPS[sort]
    return read_one(reader)


def _read_sum_step(reader):
    """Read a step that begins with a sum: a set, a write, or the sum alone."""
    first = reader.place
    part, is_word = read_part(reader)
    # A name within brackets is no name to be set.
    is_name = part[0] == "name" and reader.place == first + 1
    if reader.next_sort() == "=" and (is_name or is_word):
        place = reader.take("=")
        worth = read_sum(reader)
        reader.take(";")
        return ("set", place, part[2], worth) if is_name else ("write", place, part[2], part[3], worth)
    asked = read_sum_from(reader, part)
    return ("do", reader.take(";"), asked)


def _read_drop(reader):
    place = reader.take("drop")
    part, is_word = read_part(reader)
    if not is_word:
        raise NoSource(reader.place)
    reader.take(";")
    return ("drop", place, part[2], part[3])


def _read_if(reader):
    place = reader.take("if")
    asked = read_sum(reader)
    steps = read_block(reader)
    if reader.next_sort() != "else":
        return ("if", place, asked, steps, ())
    reader.take("else")
    return ("if", place, asked, steps, read_block(reader))


def _read_while(reader):
    place = reader.take("while")
    asked = read_sum(reader)
    return ("while", place, asked, read_block(reader))


def _read_guard(reader):
    place = reader.take("guard")
    steps = read_block(reader)
    reader.take("else")
    name = reader.take_worth("NAME")
    return ("guard", place, steps, name, read_block(reader))


def _read_give(reader):
    place = reader.take("give")
    asked = read_sum(reader)
    reader.take(";")
    return ("give", place, asked)


def _read_calm(reader):
    place = reader.take("calm")
    reader.take(";")
    return ("calm", place)


STEPS = {
    "drop": _read_drop,
    "if": _read_if,
    "while": _read_while,
    "guard": _read_guard,
    "give": _read_give,
    "calm": _read_calm,
}
