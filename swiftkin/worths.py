"""Worths: what words of things and kinds may bear.

Each question here may be asked of anything, and is answered True or False.
"""


def is_whole(thing):
    """Tell whether this is a whole number."""
    # Python takes True and False for numbers; the document doesn't.
    return isinstance(thing, int) and not isinstance(thing, bool)


def is_name(thing):
    """Tell whether this is a name: one to eight small letters."""
    if not isinstance(thing, str):
        return False
    return 1 <= len(thing) <= 8 and all(["a" <= sign <= "z" for sign in thing])


def is_just(one, other):
    """Tell whether these are alike in each part, a truth being no number and a list no tuple."""
    if isinstance(one, (list, tuple)) and isinstance(other, (list, tuple)):
        if isinstance(one, list) != isinstance(other, list) or len(one) != len(other):
            return False
        return all([is_just(part, like) for part, like in zip(one, other)])
    return isinstance(one, bool) == isinstance(other, bool) and one == other


def is_plain(thing):
    """Tell whether this is a plain worth."""
    if _has_form(thing, "none", 1) or _has_form(thing, "not", 1):
        return True
    if _has_form(thing, "truth", 2):
        return isinstance(thing[1], bool)
    if _has_form(thing, "number", 2):
        return is_whole(thing[1]) and -(10 ** 9) <= thing[1] <= 10 ** 9
    return _has_form(thing, "text", 2) and _is_short_text(thing[1])


def is_worth(thing):
    """Tell whether this is a worth."""
    if not _has_form(thing, "bound", 4):
        return _is_unbound(thing)
    return is_name(thing[1]) and is_name(thing[2]) and _is_unbound(thing[3])


def _is_unbound(thing):
    """Tell whether this is a worth, and no bound one."""
    if _has_form(thing, "kind", 2) or _has_form(thing, "deed", 2):
        return is_name(thing[1])
    if _has_form(thing, "thing", 2):
        return is_whole(thing[1]) and thing[1] >= 0
    return is_plain(thing) or _is_gate(thing)


def _is_gate(thing):
    """Tell whether this is a gate, one that writes or not."""
    if not _has_form(thing, "gate", 3):
        return False
    return is_name(thing[1]) and (thing[2] is None or is_name(thing[2]))


def _has_form(thing, word, many):
    """Tell whether this is a tuple of so many things with this word first."""
    return isinstance(thing, tuple) and len(thing) == many and thing[0] == word


def _is_short_text(thing):
    """Tell whether this is a text that a worth can have."""
    if not isinstance(thing, str):
        return False
    return len(thing) <= 20 and all([_is_sign(sign) for sign in thing])


def _is_sign(sign):
    """Tell whether texts have this sign."""
    return " " <= sign <= "~" or sign == "\t" or sign == "\n"
