"""Tokens: what a source's text is made of.

A token is told as a tuple (sort, worth): the sort of a kept name or a sign is itself.
"""

KEPT = ("deed", "if", "else", "while", "guard", "give", "drop", "above", "calm", "yes", "no", "none")
SIGNS = ("(", ")", "{", "}", ".", ",", ";", "+", "<", "=")
MOST_LETTERS = 8
MOST_FIGURES = 10
MOST_NUMBER = 10 ** 9
MOST_SIGNS = 20


def tokens_of(text):
    """Tell the tokens of a text, then one of the sort END; or of BAD, where the next sign begins none."""
    tokens = []
    at = 0
    while at < len(text):
        if text[at] in " \n":
            at += 1
            continue
        token, many = _token_at(text, at)
        tokens.append(token)
        if many == 0:
            return tokens
        at += many
    return tokens + [("END", None)]


def _token_at(text, at):
    """Tell the longest token that begins here, and how many signs it has."""
    if _is_letter(text[at]):
        name = text[at:at + _many(text, at, MOST_LETTERS, _is_letter)]
        return ((name if name in KEPT else "NAME", name), len(name))
    if _is_figure(text[at]):
        figures = _figures(text, at)
        return (("NUMBER", int(figures)), len(figures))
    if text[at] == '"':
        return _text_at(text, at)
    if text[at:at + 2] == "==":
        return (("==", "=="), 2)
    if text[at] in SIGNS:
        return ((text[at], text[at]), 1)
    return (("BAD", None), 0)


def _figures(text, at):
    """Tell the figures of the longest number that begins here."""
    if text[at] == "0":
        return "0"
    figures = text[at:at + _many(text, at, MOST_FIGURES, _is_figure)]
    return figures if int(figures) <= MOST_NUMBER else figures[:-1]


def _text_at(text, at):
    """Tell the text that begins here, if there is one, and how many signs its token has."""
    many = _many(text, at + 1, MOST_SIGNS, _is_inside)
    end = at + 1 + many
    if text[end:end + 1] != '"':
        return (("BAD", None), 0)
    return (("TEXT", text[at + 1:end]), many + 2)


def _many(text, at, most, is_one):
    """Tell how many signs of one sort stand from here on, so many at most."""
    many = 0
    while many < most and at + many < len(text) and is_one(text[at + many]):
        many += 1
    return many


def _is_letter(sign):
    """Tell whether a name may have this sign."""
    return "a" <= sign <= "z"


def _is_figure(sign):
    """Tell whether a number may have this sign."""
    return "0" <= sign <= "9"


def _is_inside(sign):
    """Tell whether a text between two quotes may have this sign."""
    return " " <= sign <= "~" and sign != '"'
