"""Cache: blocks in memory; changes of operations are gathered into groups for the journal."""

from hoststack.errors import JournalError


class Cache:
    """A journal, blocks read, blocks changed since the last commit, and what an operation has changed.

    Blocks stand in the order of their use, the one used last at the end. What an open operation has changed is kept
    as it was before: its bytes, and whether earlier operations had changed it.
    """

    def __init__(self, journal, capacity=16):
        self.journal = journal
        self.capacity = capacity
        self.blocks = {}
        self.dirty = {}
        self.before = None
        self.commits = 0

    def read_block(self, number):
        """Return the bytes of a block."""
        if number in self.blocks:
            data = self.blocks.pop(number)
        else:
            data = self.journal.device.read(number)
        self.blocks[number] = data
        self.shrink()
        return data

    def shrink(self):
        """Drop unchanged blocks down to the capacity, the least recently used ones first."""
        if len(self.blocks) <= self.capacity:
            return
        for number in list(self.blocks)[:-1]:
            if number not in self.dirty and len(self.blocks) > self.capacity:
                del self.blocks[number]

    def put(self, number, data):
        """Change a block within the open operation; raise JournalError if none is open."""
        if self.before is None:
            raise JournalError('no operation is open')
        old = self.read_block(number)
        if number not in self.before:
            self.before[number] = (old, number in self.dirty)
        self.blocks[number] = tuple(data)
        self.dirty[number] = True

    def begin(self):
        """Open an operation; raise JournalError if one is open."""
        if self.before is not None:
            raise JournalError('an operation is open')
        self.before = {}

    def end(self):
        """Close the operation; commit earlier ones first if the group would be too large with it.

        Raise JournalError, undoing the operation, if it is too large by itself.
        """
        if len(self.before) > self.journal.room():
            self.undo()
            raise JournalError('an operation is too large')
        if len(self.dirty) > self.journal.room():
            self.commit(self.earlier_rows(), list(self.before))
        self.before = None

    def undo(self):
        """Undo the open operation."""
        for number, (data, changed) in self.before.items():
            self.blocks[number] = data
            if not changed:
                del self.dirty[number]
        self.before = None
        self.shrink()

    def sync(self):
        """Commit all changes; raise JournalError if an operation is open."""
        if self.before is not None:
            raise JournalError('an operation is open')
        if self.dirty != {}:
            self.commit([(number, self.blocks[number]) for number in sorted(self.dirty)], [])

    def earlier_rows(self):
        """Return (block number, data) of what earlier operations changed, as it was before the open one."""
        rows = []
        for number in sorted(self.dirty):
            data, changed = self.before.get(number, (self.blocks[number], True))
            if changed:
                rows.append((number, data))
        return rows

    def commit(self, rows, left):
        """Commit a group; the blocks that are left stay changed."""
        self.journal.commit(rows)
        self.commits = self.commits + 1
        self.dirty = {number: True for number in left}
        self.shrink()
