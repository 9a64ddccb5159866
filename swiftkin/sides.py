"""What the rows add, less, same and size do, and what is true."""

from swiftkin.falls import Fall
from swiftkin.finds import is_deed
from swiftkin.worths import is_plain


def added(run, one, other):
    """Tell one and the other, added."""
    if one[0] == other[0] and one[0] in ("number", "text"):
        worth = (one[0], one[1] + other[1])
        if not is_plain(worth):
            raise Fall("beyond")
        return worth
    told = _by_words(run, one, other)
    if told is None:
        raise Fall("noadd")
    return told


def lesser(run, one, other):
    """Tell whether one is less than the other, or what a side tells of that."""
    if one[0] == other[0] and one[0] in ("number", "text"):
        return ("truth", one[1] < other[1])
    told = _by_words(run, one, other)
    if told is None:
        raise Fall("noless")
    return told


def alike(run, one, other):
    """Tell whether one is the same as the other, or what a side tells of that."""
    told = _by_words(run, one, other)
    return ("truth", one == other) if told is None else told


def size(run, asked):
    """Tell the size of this worth."""
    if asked[0] == "text":
        return ("number", len(asked[1]))
    found = run.look(0, run.kind_of(asked)) if asked[0] == "thing" else None
    if not is_deed(found):
        raise Fall("nosize")
    return _given_size(run, asked, found)


def is_true(run, asked):
    """Tell whether this worth is true."""
    if asked[0] == "thing":
        return _is_true_thing(run, asked)
    if asked[0] in ("none", "not"):
        return False
    if asked[0] in ("truth", "number", "text"):
        return bool(asked[1])
    return True


def _is_true_thing(run, asked):
    """Tell whether this thing is true, by its truth, else by its size."""
    found = run.look(0, run.kind_of(asked))
    if is_deed(found):
        told = run.call_found(found, (asked,))
        if told[0] != "truth":
            raise Fall("badtruth")
        return told[1]
    found = run.look(1, run.kind_of(asked))
    return not is_deed(found) or _given_size(run, asked, found)[1] != 0


def _given_size(run, asked, found):
    """Tell the size that the deed found gives of this thing."""
    told = run.call_found(found, (asked,))
    if told[0] != "number" or told[1] < 0:
        raise Fall("badsize")
    return told


def _by_words(run, one, other):
    """Tell what the sides tell of one and the other, or None where no side does."""
    if not _is_other_below(run, one, other):
        told = _left(run, one, other)
        return _right(run, one, other) if told is None else told
    # Here the right side is found ahead of all, and asked by that in either order.
    turned = run.look(1, run.kind_of(other))
    if is_deed(turned) and _is_elsewhere(run.look(2, run.kind_of(one)), turned):
        told = _side(run, turned, other, one)
        return _left(run, one, other) if told is None else told
    told = _left(run, one, other)
    return _side(run, turned, other, one) if told is None else told


def _is_other_below(run, one, other):
    """Tell whether these are things of two kinds, the other's below the one's."""
    if one[0] != "thing" or other[0] != "thing":
        return False
    kind, below = run.kind_of(one), run.kind_of(other)
    return kind != below and kind in run.world.line(below)


def _is_elsewhere(found, turned):
    """Tell whether what was found is no deed, or is at another kind than the turned one."""
    return not is_deed(found) or found[0] != turned[0]


def _left(run, one, other):
    """Tell what the left side tells, or None."""
    if one[0] != "thing":
        return None
    return _side(run, run.look(0, run.kind_of(one)), one, other)


def _right(run, one, other):
    """Tell what the right side tells, or None, where it was not found ahead."""
    if other[0] != "thing":
        return None
    if one[0] == "thing" and run.kind_of(one) == run.kind_of(other):
        return None
    return _side(run, run.look(1, run.kind_of(other)), other, one)


def _side(run, found, asked, other):
    """Tell what the deed that was found for a side tells, or None."""
    if not is_deed(found):
        return None
    told = run.call_found(found, (asked, other))
    return None if told == ("not",) else told
