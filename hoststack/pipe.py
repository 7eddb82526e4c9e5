"""Pipes: texts from writers to readers, a limited number of characters at a time."""

from hoststack.errors import PipeError


class Pipe:
    """The characters that were written and not read, and how many ends are open."""

    def __init__(self, capacity):
        if capacity < 1:
            raise PipeError('a pipe has room for a character at least')
        self.capacity = capacity
        self.text = ''
        self.readers = 0
        self.writers = 0
        self.passed = 0

    def may_take(self):
        """Return True if a reader need not wait."""
        return self.text != '' or self.writers == 0

    def may_give(self):
        """Return True if a writer need not wait."""
        return len(self.text) < self.capacity or self.readers == 0

    def take(self, many):
        """Return at most so many characters, "" at the end, None if a reader has to wait."""
        if not self.may_take():
            return None
        taken = self.text[:max(many, 0)]
        self.text = self.text[len(taken):]
        return taken

    def give(self, text):
        """Return how many characters of a text went in, None if a writer has to wait; raise PipeError "broken"."""
        if self.readers == 0:
            raise PipeError('broken')
        if text != '' and not self.may_give():
            return None
        given = text[:self.capacity - len(self.text)]
        self.text = self.text + given
        self.passed = self.passed + len(given)
        return len(given)
