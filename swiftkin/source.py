"""Sources: a text is read as a tree, and a tree is shown as a text."""

from swiftkin.code import looked
from swiftkin.compiled import compiled
from swiftkin.errors import NoSource, TooBig
from swiftkin.reader import Reader
from swiftkin.shown import block_tokens, listed, plain_token
from swiftkin.steps import read_block
from swiftkin.sums import read_plain

MOST_TAKES = 4


def read(text):
    """Read a text: tell its tree, or refuse it with NoSource or TooBig."""
    reader = Reader(text)
    reader.take("deed")
    name = reader.take_worth("NAME")
    takes = _read_takes(reader)
    reader.has_takes = len(takes) > 0
    steps = read_block(reader)
    reader.need_end()
    tree = ("deed", name, takes, steps, reader.place - 1)
    code, _ = compiled(tree)
    # Such a code is wrong only by its size: rows, guards, or the height of its stack.
    if looked(code)[0] != "right":
        raise TooBig("too many rows or guards, or too high a stack")
    return tree


def show(tree):
    """Tell the text of a tree."""
    _, name, takes, steps, _ = tree
    taken = listed([_take_tokens(take) for take in takes])
    return " ".join(["deed", name, "("] + taken + [")"] + block_tokens(steps))


def _read_takes(reader):
    """Read what the deed takes."""
    reader.take("(")
    takes = []
    if reader.next_sort() != ")":
        takes.append(_read_take(reader, takes))
    while takes and len(takes) < MOST_TAKES and reader.next_sort() == ",":
        reader.take(",")
        takes.append(_read_take(reader, takes))
    reader.take(")")
    return tuple(takes)


def _read_take(reader, ahead):
    """Read a take behind those ahead of it."""
    if reader.next_worth() in [take[0] for take in ahead]:
        raise NoSource(reader.place)
    name = reader.take_worth("NAME")
    must_have = any([len(take) == 2 for take in ahead])
    if not must_have and reader.next_sort() != "=":
        return (name,)
    reader.take("=")
    return (name, read_plain(reader))


def _take_tokens(take):
    """Tell the tokens of a take."""
    return [take[0]] if len(take) == 1 else [take[0], "=", plain_token(take[1])]
