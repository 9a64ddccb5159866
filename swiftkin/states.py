"""The states of a quick machine's places, and what comes behind each look."""

COLD = ("cold", None, 0)
MOST_MISSES = 2
REST = 4


def is_special_state(state):
    """Tell whether a place of this state is special."""
    return state[0] == "special"


def special_by(guard):
    """Tell the state of a place that this guard has just made special."""
    return ("special", guard, 0)


def after_look(state, guard):
    """Tell the state behind a look with this guard, or with none, that was no hit."""
    if state[0] == "special":
        misses = state[2] + 1
        return ("rest", REST) if misses == MOST_MISSES else ("special", state[1], misses)
    if state[0] == "rest":
        return COLD if state[1] == 1 else ("rest", state[1] - 1)
    if guard is None:
        return COLD
    return special_by(guard) if state == ("cold", guard, 1) else ("cold", guard, 1)
