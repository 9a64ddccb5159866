"""A reader goes through the tokens of a source, and refuses the first that can't stand."""

from swiftkin.errors import NoSource, TooBig
from swiftkin.tokens import tokens_of

MOST_TOKENS = 200
MOST_BRACKETS = 12


class Reader:
    """Reads a text token by token."""

    def __init__(self, text):
        self._tokens = tokens_of(text)
        # How many brackets are unclosed.
        self._deep = 0
        # The place of the token that is next.
        self.place = 0
        # Whether the deed takes something.
        self.has_takes = False

    def next_sort(self):
        """Tell the sort of the next token."""
        return self._tokens[self.place][0]

    def next_worth(self):
        """Tell the worth of the next token."""
        return self._tokens[self.place][1]

    def take(self, *sorts):
        """Take the next token, which must be of one of these sorts, and tell its place."""
        sort = self.next_sort()
        if sort not in sorts:
            raise NoSource(self.place)
        if self.place >= MOST_TOKENS:
            raise TooBig("too many tokens")
        if sort in ("(", "{"):
            self._open_bracket()
        if sort in (")", "}"):
            self._deep -= 1
        self.place += 1
        return self.place - 1

    def take_worth(self, *sorts):
        """Take the next token, which must be of one of these sorts, and tell its worth."""
        worth = self.next_worth()
        self.take(*sorts)
        return worth

    def need_end(self):
        """Refuse the next token, if there is one."""
        if self.next_sort() != "END":
            raise NoSource(self.place)

    def _open_bracket(self):
        if self._deep >= MOST_BRACKETS:
            raise TooBig("too many brackets within one another")
        self._deep += 1
