"""Code: whether it is right, the heights of its stack, and ways that show it wrong.

Each question here may be asked of anything that is handed in as code.
"""

from swiftkin.worths import is_name, is_plain, is_whole

MOST_ROWS = 40
MOST_GUARDS = 8
MOST_UPPER = 4
MOST_HEIGHT = 16

# Of each row: what stands behind its word, how many it takes, how many it puts.
# A row with a number of upper ones takes these, too.
FORMS = {
    "push": ("plain", 0, 1),
    "kind": ("name", 0, 1),
    "deed": ("name", 0, 1),
    "get": ("name", 0, 1),
    "let": ("name", 1, 0),
    "read": ("name", 1, 1),
    "write": ("name", 2, 0),
    "drop": ("name", 1, 0),
    "above": ("name", 1, 1),
    "call": ("upper", 1, 1),
    "add": ("nothing", 2, 1),
    "less": ("nothing", 2, 1),
    "same": ("nothing", 2, 1),
    "size": ("nothing", 1, 1),
    "elders": ("upper", 1, 0),
    "jump": ("row", 0, 0),
    "unless": ("row", 1, 0),
    "calm": ("nothing", 0, 0),
    "give": ("nothing", 1, 0),
}


def looked(code):
    """Tell ("right", heights), ("bad", number) or ("wrong", ways) of this code."""
    number = _first_bad(code)
    return _searched(code) if number is None else ("bad", number)


def is_heights(code, heights):
    """Tell whether these are the right heights of this code."""
    if not isinstance(heights, list):
        return False
    if not all([height is None or is_whole(height) for height in heights]):
        return False
    # Each row's height follows from row 0 on, so right heights are always one list.
    return looked(code) == ("right", heights)


def is_wrong(code, ways):
    """Tell whether these ways show that this code is wrong."""
    if _first_bad(code) is not None or not _are_lists(ways):
        return False
    ends = [_heights_at_end(code, way) for way in ways]
    last = ways[0][-1]
    if len(ways) == 1:
        return any([_is_stuck(code, last, height) for height in ends[0]])
    return ways[1][-1] == last and any([one != other for one in ends[0] for other in ends[1]])


def takes_of(row):
    """Tell how many this row takes off the stack."""
    form, takes, _ = FORMS[row[0]]
    return takes + row[1] if form == "upper" else takes


def first_guard(code, at):
    """Tell the first guard that has the row of this number, or None."""
    for guard in code[1]:
        if guard[0] <= at < guard[1]:
            return guard
    return None


def _first_bad(code):
    """Tell the number of the first row or guard that is not as it must be, or None."""
    if not _is_pair(code) or not code[0]:
        return 0
    rows, guards = code
    for at, row in enumerate(rows):
        if at == MOST_ROWS or not _is_row(row, len(rows)):
            return at
    for at, guard in enumerate(guards):
        if at == MOST_GUARDS or not _is_guard(guard, len(rows)):
            return len(rows) + at
    return None


def _is_pair(code):
    """Tell whether this is a tuple of two tuples."""
    return isinstance(code, tuple) and len(code) == 2 and all([isinstance(part, tuple) for part in code])


def _is_row(row, many):
    """Tell whether this can be a row of a code of so many."""
    if not isinstance(row, tuple) or not row:
        return False
    if not isinstance(row[0], str) or row[0] not in FORMS:
        return False
    form = FORMS[row[0]][0]
    if form == "nothing":
        return len(row) == 1
    return len(row) == 2 and _is_part(form, row[1], many)


def _is_part(form, part, many):
    """Tell whether this can stand behind the word of a row of this form."""
    if form == "plain":
        return is_plain(part)
    if form == "name":
        return is_name(part)
    most = MOST_UPPER if form == "upper" else many - 1
    return is_whole(part) and 0 <= part <= most


def _is_guard(guard, many):
    """Tell whether this can be a guard of a code of so many rows."""
    if not isinstance(guard, tuple) or len(guard) != 4:
        return False
    if not all([is_whole(part) for part in guard]):
        return False
    first, last, goes, height = guard
    return 0 <= first < last <= many and 0 <= goes < many and 0 <= height < MOST_HEIGHT


def _searched(code):
    """Tell ("right", heights) or ("wrong", ways) of a code that is not bad."""
    # Of each row that was met: the first way to it, and the height that it has there.
    met = {0: ([0], 0)}
    waiting = [0]
    while waiting:
        at = waiting.pop(0)
        way, height = met[at]
        if _is_stuck(code, at, height):
            return ("wrong", [list(way)])
        for behind, then in _led_to(code, at, height):
            if behind not in met:
                met[behind] = (way + [behind], then)
                waiting.append(behind)
            elif met[behind][1] != then:
                return ("wrong", [list(met[behind][0]), way + [behind]])
    return ("right", [met[at][1] if at in met else None for at in range(len(code[0]))])


def _leaves(row, height):
    """Tell how many a row leaves that is begun with so many."""
    return height - takes_of(row) + FORMS[row[0]][2]


def _behind(code, at):
    """Tell the numbers of the rows that come behind this one, there or not."""
    row = code[0][at]
    if row[0] == "give":
        return []
    if row[0] == "jump":
        return [row[1]]
    return [at + 1, row[1]] if row[0] == "unless" else [at + 1]


def _is_stuck(code, at, height):
    """Tell whether a way of this height can't go on from its last row, at, as it must."""
    row = code[0][at]
    left = height - takes_of(row)
    if left < 0 or _leaves(row, height) > MOST_HEIGHT or len(code[0]) in _behind(code, at):
        return True
    guard = first_guard(code, at)
    return guard is not None and guard[3] > left


def _led_to(code, at, height):
    """Tell the rows that a way goes on to from this one, each with the height it has then."""
    then = _leaves(code[0][at], height)
    led = [(behind, then) for behind in _behind(code, at)]
    guard = first_guard(code, at)
    # The fall's word lies upon what the guard leaves.
    return led if guard is None else led + [(guard[2], guard[3] + 1)]


def _are_lists(ways):
    """Tell whether this is a list of one or two lists of whole numbers, none of them empty."""
    if not isinstance(ways, list) or len(ways) not in (1, 2):
        return False
    if not all([isinstance(way, list) and len(way) > 0 for way in ways]):
        return False
    return all([is_whole(number) for way in ways for number in way])


def _heights_at_end(code, way):
    """Tell each height that this way has at its end: none where it is no way."""
    heights = [0] if way[0] == 0 else []
    for one, other in zip(way, way[1:]):
        free = [height for height in heights if not _is_stuck(code, one, height)]
        led = [pair for height in free for pair in _led_to(code, one, height)]
        heights = [height for height in range(MOST_HEIGHT + 1) if (other, height) in led]
    return heights
