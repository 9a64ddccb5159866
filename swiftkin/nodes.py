"""The nodes of a source's tree: which sums stand in each, and the rows that it is behind them.

The steps if, while and guard, which lead to other steps, are not told of here.
"""

# Where the sums of a node stand in it; a call has more of them.
SUMS = {
    "plain": (),
    "name": (),
    "above": (),
    "read": (2,),
    "add": (2, 3),
    "less": (2, 3),
    "same": (2, 3),
    "set": (3,),
    "write": (2, 4),
    "drop": (2,),
    "give": (2,),
    "calm": (),
    "do": (2,),
}

# Of each node that is one row with something behind the row's word: this word, and
# where in the node that stands.
WORDED = {
    "plain": ("push", 2),
    "name": ("get", 2),
    "read": ("read", 3),
    "set": ("let", 2),
    "write": ("write", 3),
    "drop": ("drop", 3),
}


def sums_of(node):
    """Tell the sums that stand in a node, in the order in which they are worked out."""
    if node[0] == "call":
        return (node[2],) + node[3]
    return tuple([node[at] for at in SUMS[node[0]]])


def rows_of(node, takes):
    """Tell the rows that a node is behind its sums, in a deed that takes these."""
    sort = node[0]
    if sort in WORDED:
        word, at = WORDED[sort]
        return ((word, node[at]),)
    if sort == "above":
        return (("get", takes[0][0]), ("above", node[2]))
    if sort == "call":
        return (("call", len(node[3])),)
    if sort == "do":
        # A kept name, so no local of the source is lost.
        return (("let", "none"),)
    return ((sort,),)
