"""Opened: what a descriptor leads to: a file at an offset, an end of a pipe, the console, or nothing.

Each of them counts its holders, the descriptors that lead there; it is closed when the last of them is.
"""

from hoststack.errors import FileError, HostError


class OpenFile:
    """An open file: its inode, offset, whether it may be read and written, and whether writes go to its end."""

    def __init__(self, files, number, reads, writes, appends):
        self.files = files
        self.number = number
        self.reads = reads
        self.writes = writes
        self.appends = appends
        self.offset = 0
        self.holders = 0
        self.is_closed = False
        files.hold(number)

    def may_go(self, writing):
        """Return True: files never wait."""
        return True

    def take(self, many):
        """Return at most so many characters from the offset on, which moves."""
        if not self.reads:
            raise FileError('not readable')
        text = self.files.read(self.number, self.offset, many)
        self.offset = self.offset + len(text)
        return text

    def give(self, text):
        """Write a text at the offset, which moves, or at the end; return how many characters were written."""
        if not self.writes:
            raise FileError('not writable')
        offset = self.files.file_inode(self.number).size if self.appends else self.offset
        many = self.files.write(self.number, offset, text)
        # Writing "" changes nothing, the offset neither.
        if many > 0:
            self.offset = offset + many
        return many

    def seek(self, offset):
        """Move the offset; raise FileError "bad size" for a negative one."""
        if offset < 0:
            raise FileError('bad size')
        self.offset = offset

    def close(self):
        """Note that nobody leads here any more."""
        if not self.is_closed:
            self.files.let_go(self.number)
            self.is_closed = True


class PipeEnd:
    """An end of a pipe."""

    def __init__(self, pipe, writing):
        self.pipe = pipe
        self.writing = writing
        self.holders = 0
        self.is_closed = False
        self.count_end(1)

    def count_end(self, many):
        """Count so many more open ends of this sort."""
        if self.writing:
            self.pipe.writers = self.pipe.writers + many
        else:
            self.pipe.readers = self.pipe.readers + many

    def may_go(self, writing):
        """Return True if the end's call would not wait."""
        if writing != self.writing:
            return True
        return self.pipe.may_give() if writing else self.pipe.may_take()

    def take(self, many):
        """Return characters of the pipe, None to wait; raise FileError "not readable" at the writing end."""
        if self.writing:
            raise FileError('not readable')
        return self.pipe.take(many)

    def give(self, text):
        """Return how many characters the pipe took, None to wait; raise FileError "not writable" at the reading end."""
        if not self.writing:
            raise FileError('not writable')
        return self.pipe.give(text)

    def close(self):
        """Close the end."""
        if not self.is_closed:
            self.count_end(-1)
            self.is_closed = True


class Console:
    """What is read from and written to the user."""

    def __init__(self, entered=''):
        self.entered = entered
        self.written = ''
        self.holders = 0

    def may_go(self, writing):
        """Return True: the console never waits."""
        return True

    def take(self, many):
        """Return at most so many entered characters."""
        taken = self.entered[:max(many, 0)]
        self.entered = self.entered[len(taken):]
        return taken

    def give(self, text):
        """Show a text."""
        self.written = self.written + text

    def close(self):
        """Do nothing: the console stays."""


class Nothing:
    """What reads as empty and takes every text."""

    def __init__(self):
        self.holders = 0

    def may_go(self, writing):
        """Return True: nothing never waits."""
        return True

    def take(self, many):
        """Return ""."""
        return ''

    def give(self, text):
        """Take a text."""

    def close(self):
        """Do nothing."""


def lead_away(opened):
    """Note that a descriptor leads to something no more, which is closed if it was the last one."""
    if opened.holders == 1:
        opened.close()
    opened.holders = opened.holders - 1


class Table:
    """Descriptors: numbers to what they lead to."""

    def __init__(self):
        self.rows = {}

    def opened(self, number):
        """Return what a descriptor leads to; raise FileError "not open"."""
        if number not in self.rows:
            raise FileError('not open')
        return self.rows[number]

    def put(self, number, opened):
        """Let a descriptor lead somewhere, closing what it led to."""
        # The new one is counted first: it may be the one to which the descriptor leads already.
        opened.holders = opened.holders + 1
        try:
            if number in self.rows:
                lead_away(self.rows[number])
        except HostError:
            opened.holders = opened.holders - 1
            raise
        self.rows[number] = opened

    def lowest(self):
        """Return the least number that is no descriptor."""
        number = 0
        while number in self.rows:
            number = number + 1
        return number

    def add(self, opened):
        """Return the least new descriptor, which leads somewhere."""
        number = self.lowest()
        self.put(number, opened)
        return number

    def close(self, number):
        """Close a descriptor; what no descriptor leads to any more is closed."""
        lead_away(self.opened(number))
        del self.rows[number]

    def close_all(self):
        """Close all descriptors."""
        for number in sorted(self.rows):
            self.close(number)

    def copied(self):
        """Return a table whose descriptors lead to the same."""
        found = Table()
        for number in sorted(self.rows):
            found.put(number, self.rows[number])
        return found
