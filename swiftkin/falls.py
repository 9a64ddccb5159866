"""What ends a row before it is done."""


class Fall(Exception):
    """A fall, by its word: it goes out through the calls to the first guard that has it."""

    def __init__(self, word):
        super().__init__(word)
        self.word = word


class Tired(Exception):
    """Another row should be begun, but as many as the bound were: nothing catches this."""
