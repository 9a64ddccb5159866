"""A second way of judging papers, by the words of [18], [20], [26] and [27], over a second world."""

import re

from second_machine import deed, writer
from second_world import SecondWorld


def second_of(changes):
    """Make the second world of these changes."""
    second = SecondWorld()
    for change in changes:
        second.change(change)
    return second


def second_paper(second, worth, word):
    """Tell the paper of a read."""
    sort, what = worth
    kind = second.kind_of[what] if sort == "thing" else what
    line = second.line(kind)
    own = second.shape(what) if sort == "thing" else None
    having = [name for name in line if word in [other for other, _ in second.words(name)]]
    at = line.index(having[0]) if having else None
    found = second.found(kind, word)
    sorts = [
        ("writer", sort == "thing" and writer(found)),
        ("own", sort == "thing" and word in own),
        ("gate", sort == "thing" and found is not None and found[1][0] == "gate"),
        ("deed", sort == "thing" and deed(found)),
        ("worth", found is not None),
        ("missing", True),
    ]
    return (line, at, [name for name, holds in sorts if holds][0], own)


# What [18] says of the looks of each row: the words of those numbered 0, 1, 2; its own is "*".
NUMBERS = {
    "read": "* missing", "write": "*", "above": "*", "call": "begin", "add": "add radd radd", "less": "less more more",
    "same": "same same same", "size": "size", "unless": "truth size",
}


def word_of(row, number):
    """Tell the word of the look of this number, or None."""
    words = NUMBERS.get(row[0], "").split()
    return None if number not in range(len(words)) else words[number].replace("*", str(row[-1]))


def right_papers(second, deed_name, at, number, shapes):
    """Tell all right papers of a place whose shape, if they have one, is one of these."""
    row = second.deeds[deed_name][0][0][at]
    word = word_of(row, number)
    papers = []
    for kind in second.kinds() if word else []:
        version, found = second.version(kind), second.found(kind, word)
        guards = []
        if row[0] in ("read", "write") and number == 0:
            if writer(found):
                guards.append(("thing", version))
            else:
                guards += [("thing", version, shape) for shape in shapes if is_shape(shape) and (
                    row[0] == "write" or word in shape or found is not None)]
            if row[0] == "read" and found is not None:
                guards.append(("kind", version))
        elif row[0] == "above":
            for home in second.line(kind):
                line = second.line(kind)
                behind = second.found_in(line[line.index(home) + 1:], word)
                if behind is not None:
                    papers.append((deed_name, at, number, ("above", version, home), behind))
        else:
            guards.append(("word", version))
        papers += [(deed_name, at, number, guard, found) for guard in guards]
    return papers


def is_shape(names):
    whole = all(type(name) is str and re.fullmatch("[a-z]{1,8}", name) for name in names)
    return whole and len(names) <= 8 and len(set(names)) == len(names)
