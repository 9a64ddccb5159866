"""How the sums of a source are read."""

from swiftkin.errors import NoSource

MOST_GIVEN = 4

# What each of these tokens is as a worth.
WORTHS = {"yes": ("truth", True), "no": ("truth", False), "none": ("none",)}

COMPARED = {"<": "less", "==": "same"}


def read_sum(reader):
    """Read a sum."""
    part, _ = read_part(reader)
    return read_sum_from(reader, part)


def read_sum_from(reader, part):
    """Read the rest of a sum that begins with this part."""
    node = _read_add_from(reader, part)
    sort = reader.next_sort()
    if sort not in COMPARED:
        return node
    place = reader.take(sort)
    other, _ = read_part(reader)
    return (COMPARED[sort], place, node, _read_add_from(reader, other))


def read_part(reader):
    """Read a part, and tell whether a word that is read is its end."""
    node = _read_atom(reader)
    is_word = False
    while reader.next_sort() in (".", "("):
        is_word = reader.next_sort() == "."
        node = _read_word(reader, node) if is_word else _read_call(reader, node)
    return (node, is_word)


def read_plain(reader):
    """Read a plain worth."""
    if reader.next_sort() in WORTHS:
        return WORTHS[reader.take_worth("yes", "no", "none")]
    sort = "text" if reader.next_sort() == "TEXT" else "number"
    return (sort, reader.take_worth("NUMBER", "TEXT"))


def _read_add_from(reader, node):
    """Read the rest of an add that begins with this part."""
    while reader.next_sort() == "+":
        place = reader.take("+")
        other, _ = read_part(reader)
        node = ("add", place, node, other)
    return node


def _read_word(reader, node):
    """Read a word of this node."""
    place = reader.take(".")
    return ("read", place, node, reader.take_worth("NAME"))


def _read_call(reader, node):
    """Read a call of this node."""
    place = reader.take("(")
    given = []
    if reader.next_sort() != ")":
        given.append(read_sum(reader))
    while given and len(given) < MOST_GIVEN and reader.next_sort() == ",":
        reader.take(",")
        given.append(read_sum(reader))
    reader.take(")")
    return ("call", place, node, tuple(given))


def _read_atom(reader):
    """Read an atom."""
    place = reader.place
    if reader.next_sort() == "NAME":
        return ("name", place, reader.take_worth("NAME"))
    if reader.next_sort() == "above":
        return _read_above(reader)
    if reader.next_sort() == "(":
        reader.take("(")
        node = read_sum(reader)
        reader.take(")")
        return node
    return ("plain", place, read_plain(reader))


def _read_above(reader):
    """Read a word above."""
    if not reader.has_takes:
        raise NoSource(reader.place)
    place = reader.take("above")
    reader.take(".")
    return ("above", place, reader.take_worth("NAME"))
