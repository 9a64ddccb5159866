"""Walks: a deed is done by its tree alone, and what it calls by its code."""

from swiftkin.falls import Fall, Tired
from swiftkin.looker import Looker
from swiftkin.nodes import rows_of, sums_of
from swiftkin.runs import Frame, Run, known_by, need_given, need_takes
from swiftkin.sides import is_true


def walk(world, tree, arguments=(), *, most=400):
    """Walk a tree with arguments and a bound of steps: tell the end, and the steps."""
    need_given(world, arguments, most)
    run = Run(world, Looker(world), most)
    end = _end(run, tree, arguments)
    return (end, run.steps)


def _end(run, tree, arguments):
    """Walk a tree to its end, and tell this."""
    _, name, takes, steps, _ = tree
    worths = tuple([take[1] for take in takes if len(take) == 2])
    try:
        need_takes(takes, worths, len(arguments))
        known = known_by([take[0] for take in takes], worths, arguments)
        walker = Walker(run, Frame(name, known, None), takes)
        return ("gave", walker.walked(steps))
    except Fall as fall:
        return ("fell", fall.word, run.trail())
    except Tired:
        return ("tired", ())


class Walker:
    """Walks the nodes of a deed that takes these, in this call."""

    def __init__(self, run, frame, takes):
        self._run = run
        self._frame = frame
        self._takes = takes
        self._depth = run.enter(frame)

    def walked(self, steps):
        """Walk the deed of these steps, and tell what it gives."""
        self._run.count_step()
        self._steps(steps)
        return ("none",) if self._frame.gave is None else self._frame.gave

    def _steps(self, nodes):
        """Walk these steps, until one gives."""
        for node in nodes:
            if self._frame.gave is None:
                self._step(node)

    def _step(self, node):
        """Walk a step."""
        if node[0] == "if":
            self._if(node)
        elif node[0] == "while":
            self._while(node)
        elif node[0] == "guard":
            self._guard(node)
        else:
            self._node(node)

    def _node(self, node):
        """Walk a node that leads to no other steps: its sums, and what it is behind them."""
        self._run.count_step()
        for part in sums_of(node):
            self._node(part)
        self._frame.at = node[1]
        for row in rows_of(node, self._takes):
            self._run.do(self._frame, row)

    def _if(self, node):
        self._run.count_step()
        self._steps(node[3] if self._is_true(node) else node[4])

    def _while(self, node):
        self._run.count_step()
        while self._frame.gave is None and self._is_true(node):
            self._steps(node[3])

    def _guard(self, node):
        self._run.count_step()
        word = self._fall_of(node[2])
        if word is not None:
            self._frame.known[node[3]] = ("text", word)
            self._steps(node[4])

    def _is_true(self, node):
        """Walk the sum that an if or while asks, and tell whether it is true."""
        self._node(node[2])
        self._frame.at = node[1]
        self._frame.row = ("unless",)
        return is_true(self._run, self._frame.stack.pop())

    def _fall_of(self, steps):
        """Walk these steps, and tell the word by which they fall, or None."""
        try:
            self._steps(steps)
        except Fall as fall:
            self._run.end_within(self._depth)
            self._frame.cut(0)
            return fall.word
        return None
