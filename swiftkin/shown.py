"""The tokens by which steps and sums of a tree are shown, each time as a list of texts."""

SIGNS = {"add": "+", "less": "<", "same": "=="}

# A sum that is compared stands in no other sum without brackets, one that is added in
# those alone that are compared, or on the left side of another one. All others are parts.
ADDED = ("less", "same")
PART = ("less", "same", "add")


def plain_token(worth):
    """Tell the token of a plain worth."""
    if worth[0] == "number":
        return str(worth[1])
    if worth[0] == "text":
        return '"' + worth[1] + '"'
    if worth[0] == "none":
        return "none"
    return "yes" if worth[1] else "no"


def listed(rows):
    """Tell the tokens of these rows of tokens, a comma between."""
    behind = [token for row in rows[1:] for token in [","] + row]
    return rows[0] + behind if rows else []


def block_tokens(nodes):
    """Tell the tokens of a block of these steps."""
    return ["{"] + [token for node in nodes for token in _step_tokens(node)] + ["}"]


def _step_tokens(node):
    """Tell the tokens of a step."""
    sort = node[0]
    if sort == "if":
        behind = ["else"] + block_tokens(node[4]) if node[4] else []
        return ["if"] + _sum_tokens(node[2]) + block_tokens(node[3]) + behind
    if sort == "while":
        return ["while"] + _sum_tokens(node[2]) + block_tokens(node[3])
    if sort == "guard":
        return ["guard"] + block_tokens(node[2]) + ["else", node[3]] + block_tokens(node[4])
    return _short_tokens(node) + [";"]


def _short_tokens(node):
    """Tell the tokens of a step without a block, but the last one."""
    sort = node[0]
    if sort == "set":
        return [node[2], "="] + _sum_tokens(node[3])
    if sort == "write":
        return _word_tokens(node[2], node[3]) + ["="] + _sum_tokens(node[4])
    if sort == "drop":
        return ["drop"] + _word_tokens(node[2], node[3])
    if sort == "give":
        return ["give"] + _sum_tokens(node[2])
    return ["calm"] if sort == "calm" else _sum_tokens(node[2])


def _sum_tokens(node):
    """Tell the tokens of a sum."""
    sort = node[0]
    if sort == "plain":
        return [plain_token(node[2])]
    if sort == "name":
        return [node[2]]
    if sort == "above":
        return ["above", ".", node[2]]
    if sort == "read":
        return _word_tokens(node[2], node[3])
    if sort == "call":
        given = listed([_sum_tokens(part) for part in node[3]])
        return _tokens_within(node[2], PART) + ["("] + given + [")"]
    right = PART if sort == "add" else ADDED
    return _tokens_within(node[2], ADDED) + [SIGNS[sort]] + _tokens_within(node[3], right)


def _word_tokens(node, word):
    """Tell the tokens of a word of this node."""
    return _tokens_within(node, PART) + [".", word]


def _tokens_within(node, sorts):
    """Tell the tokens of a sum, with brackets about it if it is of one of these sorts."""
    tokens = _sum_tokens(node)
    return ["("] + tokens + [")"] if node[0] in sorts else tokens
