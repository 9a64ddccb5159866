"""What is found by a word: (kind, worth), or None."""


def is_deed(found):
    """Tell whether a deed was found."""
    return found is not None and found[1][0] == "deed"


def is_gate(found):
    """Tell whether a gate was found, one that writes or not."""
    return found is not None and found[1][0] == "gate"


def is_writer(found):
    """Tell whether a gate that writes was found."""
    return is_gate(found) and found[1][2] is not None
