"""A second way of judging code, by the words of [9], [10] and [11]."""

from test_worths import another_way
from second_world import is_text_name

# Of each row: sorts of its parts, what it takes, what it puts.
ROWS = {
    "push": ("p", 0, 1), "kind": ("n", 0, 1), "deed": ("n", 0, 1), "get": ("n", 0, 1), "let": ("n", 1, 0),
    "read": ("n", 1, 1), "write": ("n", 2, 0), "drop": ("n", 1, 0), "above": ("n", 1, 1), "call": ("u", None, 1),
    "add": ("", 2, 1), "less": ("", 2, 1), "same": ("", 2, 1), "size": ("", 1, 1), "elders": ("u", None, 0),
    "jump": ("r", 0, 0), "unless": ("r", 1, 0), "calm": ("", 0, 0), "give": ("", 1, 0),
}


def bad_number(code):
    """Tell the number of ("bad", number), or None."""
    if type(code) is not tuple or len(code) != 2 or type(code[0]) is not tuple or type(code[1]) is not tuple:
        return 0
    rows, guards = code
    if rows == ():
        return 0
    checks = {
        "p": lambda part: another_way(part)[1],
        "n": is_text_name,
        "u": lambda part: type(part) is int and part in (0, 1, 2, 3, 4),
        "r": lambda part: type(part) is int and part in range(len(rows)),
    }
    for at in range(len(rows)):
        row = rows[at]
        if at >= 40 or type(row) is not tuple or row == () or type(row[0]) is not str or row[0] not in ROWS:
            return at
        sorts = ROWS[row[0]][0]
        if len(row) != 1 + len(sorts) or not all(checks[sort](part) for sort, part in zip(sorts, row[1:])):
            return at
    for at in range(len(guards)):
        guard = guards[at]
        if at >= 8 or type(guard) is not tuple or [type(part) for part in guard] != [int] * 4:
            return len(rows) + at
        first, last, r, height = guard
        if not (0 <= first and first < last and last <= len(rows) and r in range(len(rows)) and height in range(16)):
            return len(rows) + at
    return None


def takes(row):
    many = ROWS[row[0]][1]
    return row[1] + 1 if many is None else many


def is_so(code, at, height):
    """Tell whether the last row of a way is as [11] says of one way."""
    rows, guards = code
    row = rows[at]
    if takes(row) > height or height - takes(row) + ROWS[row[0]][2] > 16:
        return True
    if at == len(rows) - 1 and row[0] not in ("jump", "give"):
        return True
    having = [guard for guard in guards if at in range(guard[0], guard[1])]
    return having != [] and having[0][3] > height - takes(row)


def steps(code, at, height):
    """Tell each (row, height) that comes behind this one, or by its guard."""
    rows, guards = code
    row = rows[at]
    comes = {"jump": row[1:], "unless": row[1:] + (at + 1,), "give": ()}.get(row[0], (at + 1,))
    having = [guard for guard in guards if at in range(guard[0], guard[1])]
    found = {(other, height - takes(row) + ROWS[row[0]][2]) for other in comes}
    return found | {(guard[2], guard[3] + 1) for guard in having[:1]}


def all_met(code):
    """Tell each (row, height) that some way comes to whose rows ahead are not so."""
    met, fresh = set(), {(0, 0)}
    while fresh:
        met |= fresh
        fresh = {after for pair in fresh if not is_so(code, *pair) for after in steps(code, *pair)} - met
    return met


def heights_of(code):
    """Tell the right heights of a code that isn't bad, or None."""
    met = all_met(code)
    if any(is_so(code, *pair) for pair in met) or len({row for row, _ in met}) < len(met):
        return None
    return [dict(met).get(row) for row in range(len(code[0]))]


def ends_of(code, way):
    """Tell the heights of a way at its end."""
    ends = {0} if way[:1] == [0] else set()
    for one, other in zip(way, way[1:]):
        ends = {
            height for end in ends if not is_so(code, one, end)
            for row, height in steps(code, one, end) if row == other
        }
    return ends


def are_wrong(code, ways):
    """Tell whether these lists show that a code that isn't bad is wrong."""
    ends = [ends_of(code, way) for way in ways]
    if len(ways) == 1:
        return any(is_so(code, ways[0][-1], end) for end in ends[0])
    one, other = ends
    return bool(one and other) and ways[0][-1] == ways[1][-1] and len(one | other) > 1
