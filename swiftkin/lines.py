"""Lines: rows of names made into one, or a ring of demands that shows why not."""


def merge(rows):
    """Tell ("line", names), or ("ring", demands) where these rows have no line."""
    left = [list(row) for row in rows]
    names = []
    while any(left):
        name = _next_name(left)
        if name is None:
            return ("ring", _ring(left))
        names.append(name)
        left = [_without_first(row, name) for row in left]
    return ("line", names)


def is_ring(rows, demands):
    """Tell whether these demands are of these rows, and go round."""
    if not demands:
        return False
    behind = demands[1:] + demands[:1]
    return all([_is_demand(rows, demand) for demand in demands]) and all(
        [demand[1] == after[0] for demand, after in zip(demands, behind)]
    )


def _is_demand(rows, demand):
    """Tell whether one stands ahead of other in the row of this number."""
    one, other, number = demand
    if not 0 <= number < len(rows):
        return False
    row = rows[number]
    return one in row and other in row[row.index(one) + 1:]


def _next_name(left):
    """Tell the first row's first name that no row has further behind, or None."""
    for row in left:
        if row and _row_against(left, row[0]) is None:
            return row[0]
    return None


def _row_against(left, name):
    """Tell the number of a row that has this name behind its first one, or None."""
    for number, row in enumerate(left):
        if name in row[1:]:
            return number
    return None


def _without_first(row, name):
    """Tell this row, without its first name if it is this one."""
    return row[1:] if row[:1] == [name] else row


def _ring(left):
    """Tell a ring of demands of rows whose first names all stand further behind, too."""
    name = [row[0] for row in left if row][0]
    met = []
    demands = []
    # From each first name a demand leads to the first name ahead of it, so the
    # names come back to one that was met: from there on it is a ring.
    while name not in met:
        number = _row_against(left, name)
        met.append(name)
        demands.append((left[number][0], name, number))
        name = left[number][0]
    ring = demands[met.index(name):]
    return ring[::-1]
