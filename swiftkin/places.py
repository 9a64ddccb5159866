"""Places: which looks a row of code makes, each by its number."""

# The word that each look is for, in the order of the numbers: None is the row's own.
LOOKS = {
    "read": (None, "missing"),
    "write": (None,),
    "above": (None,),
    "call": ("begin",),
    "add": ("add", "radd", "radd"),
    "less": ("less", "more", "more"),
    "same": ("same", "same", "same"),
    "size": ("size",),
    "unless": ("truth", "size"),
}


def place_word(row, number):
    """Tell the word that the look of this number of a row is for, or None where it makes none."""
    looks = LOOKS.get(row[0], ())
    if not 0 <= number < len(looks):
        return None
    return row[1] if looks[number] is None else looks[number]
