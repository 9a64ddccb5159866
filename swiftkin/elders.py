"""Elders: the lines of all kinds, by the elders of each."""

from swiftkin.errors import NoLine
from swiftkin.lines import merge


def lines_by(elders):
    """Tell the line of each kind, by the elders of each: refused with NoLine where one has none.

    The elders are a dict in the order in which the kinds were made, without a round.
    """
    lines = {}
    rings = {}
    ready = _ready(elders, lines, rings)
    while ready:
        for name in ready:
            told, names = merge(_rows(elders, lines, name))
            if told == "line":
                lines[name] = [name] + names
            else:
                rings[name] = names
        ready = _ready(elders, lines, rings)
    # A kind below one that has no line is never ready, so it is never named here.
    for name in elders:
        if name in rings:
            raise NoLine(name, _rows(elders, lines, name), rings[name])
    return lines


def _ready(elders, lines, rings):
    """Tell the kinds that are not merged yet, though all their elders have lines."""
    left = [name for name in elders if name not in lines and name not in rings]
    return [name for name in left if all([elder in lines for elder in elders[name]])]


def _rows(elders, lines, name):
    """Tell what is merged for the line of this kind."""
    return [list(lines[elder]) for elder in elders[name]] + [list(elders[name])]
