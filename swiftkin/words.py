"""What the rows read, write, drop and above do with words of things and kinds."""

from swiftkin.errors import Full, NoWord
from swiftkin.falls import Fall
from swiftkin.finds import is_deed, is_gate, is_writer


def read(run, asked, word):
    """Tell the worth that a word of this one has."""
    if asked[0] == "thing":
        return _read_of_thing(run, asked, word)
    found = run.looker.read_kind(run.place_of(0), asked[1], word) if asked[0] == "kind" else None
    if found is None:
        raise Fall("noword")
    return found[1]


def above(run, asked, word):
    """Tell the worth that a word of this thing has behind the home of the call."""
    home = run.frame().home
    if asked[0] != "thing" or home not in run.world.line(run.kind_of(asked)):
        raise Fall("nohome")
    found = run.looker.behind(run.place_of(0), asked[1], home, word)
    if found is None:
        raise Fall("noword")
    return _told_by(run, asked, found)


def write(run, asked, word, worth):
    """Give a word of this one this worth."""
    if asked[0] == "thing":
        _write_of_thing(run, asked, word, worth)
    elif asked[0] == "kind":
        _write_of_kind(run, asked, word, worth)
    else:
        raise Fall("noword")


def drop(run, asked, word):
    """Take a word of this one away."""
    if asked[0] == "thing":
        _drop_of_thing(run, asked, word)
    elif asked[0] == "kind":
        _drop_of_kind(run, asked, word)
    else:
        raise Fall("noword")


def _read_of_thing(run, asked, word):
    """Tell the worth that a word of this thing has."""
    found, own = run.looker.read_thing(run.place_of(0), asked[1], word)
    if own is not None:
        return own
    if found is not None:
        return _told_by(run, asked, found)
    missing = run.look(1, run.kind_of(asked))
    if not is_deed(missing):
        raise Fall("noword")
    return run.call_found(missing, (asked, ("text", word)))


def _told_by(run, asked, found):
    """Tell what a thing's word is by what was found of it in its kind."""
    home, worth = found
    if is_gate(found):
        return run.call_deed(worth[1], (asked,), home)
    return ("bound", worth[1], home, asked) if is_deed(found) else worth


def _write_of_thing(run, asked, word, worth):
    """Give a word of this thing this worth, or hand both to the gate that writes."""
    found = run.looker.write_thing(run.place_of(0), asked[1], word)
    if is_writer(found):
        home, gate = found
        run.call_deed(gate[2], (asked, worth), home)
        return
    try:
        run.world.lay(asked[1], word, worth)
    except Full:
        raise Fall("full") from None


def _write_of_kind(run, asked, word, worth):
    """Put a word of this kind."""
    try:
        run.world.put(asked[1], word, worth)
    except Full:
        raise Fall("full") from None


def _drop_of_thing(run, asked, word):
    """Lift a word of this thing, if no gate that writes shuts it."""
    # This look has no place, and so no number.
    if is_writer(run.looker.in_kind(run.kind_of(asked), word)):
        raise Fall("shut")
    try:
        run.world.lift(asked[1], word)
    except NoWord:
        raise Fall("noword") from None


def _drop_of_kind(run, asked, word):
    """Take a word of this kind out."""
    try:
        run.world.out(asked[1], word)
    except NoWord:
        raise Fall("noword") from None
