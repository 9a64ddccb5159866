"""What a source's tree is compiled to: a code, and of each row the place of its node."""

from swiftkin.nodes import rows_of, sums_of


def compiled(tree):
    """Tell the code of a tree, and of each of its rows the place of the node that it is of."""
    writer = Writer(tree[2])
    writer.put_steps(tree[3])
    writer.put_rows((("push", ("none",)), ("give",)), tree[4])
    return ((tuple(writer.rows), tuple(writer.guards)), list(writer.places))


class Writer:
    """Writes the rows of a deed that takes these."""

    def __init__(self, takes):
        self.rows = []
        self.guards = []
        self.places = []
        self._takes = takes

    def put_steps(self, nodes):
        """Write these steps."""
        for node in nodes:
            self._step(node)

    def put_rows(self, rows, place):
        """Write these rows, of the node of this place."""
        for row in rows:
            self.rows.append(row)
            self.places.append(place)

    def _step(self, node):
        """Write a step."""
        if node[0] == "if":
            self._if(node)
        elif node[0] == "while":
            self._while(node)
        elif node[0] == "guard":
            self._guard(node)
        else:
            self._node(node)

    def _node(self, node):
        """Write a node that leads to no other steps: its sums, and what it is behind them."""
        for part in sums_of(node):
            self._node(part)
        self.put_rows(rows_of(node, self._takes), node[1])

    def _if(self, node):
        _, place, asked, steps, others = node
        self._node(asked)
        unless = self._put_open(place)
        self.put_steps(steps)
        jump = self._put_open(place) if others else None
        self._lead(unless, "unless")
        if others:
            self.put_steps(others)
            self._lead(jump, "jump")

    def _while(self, node):
        _, place, asked, steps = node
        first = len(self.rows)
        self._node(asked)
        unless = self._put_open(place)
        self.put_steps(steps)
        self.put_rows((("jump", first),), place)
        self._lead(unless, "unless")

    def _guard(self, node):
        _, place, steps, name, others = node
        first = len(self.rows)
        self.put_steps(steps)
        last = self._put_open(place)
        if first < last:
            self.guards.append((first, last, last + 1, 0))
        self.put_rows((("let", name),), place)
        self.put_steps(others)
        self._lead(last, "jump")

    def _put_open(self, place):
        """Keep room for a row that is to lead on from here, and tell its number."""
        self.put_rows((None,), place)
        return len(self.rows) - 1

    def _lead(self, at, word):
        """Let the row of this number lead to the row that is written next."""
        self.rows[at] = (word, len(self.rows))
