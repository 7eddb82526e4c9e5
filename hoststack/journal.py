"""Journal: groups of block writes that reach the device wholly or not at all.

The journal's first block is its head: a mark, the group's number, how many blocks the group has, their numbers, and a
checksum over the head and the group's data, which stands in the blocks after it. An empty journal has zeros there.
"""

from hoststack.errors import JournalError
from hoststack.letters import number_of_pair, pair, word_sum

HEAD_MARK = (74, 82)
HEAD_BASE = 6
SUM_SIZE = 4


def head_room(block_size, count):
    """Return how many blocks a group may have in a journal of so many blocks: its head fits in half a block."""
    return max(0, min(count - 1, (block_size // 2 - HEAD_BASE - SUM_SIZE) // 2))


def group_sum(head, rows):
    """Return the checksum of a head so far and a group's data."""
    data = list(head)
    for row in rows:
        data.extend(row)
    return word_sum(data)


def head_start(serial, numbers):
    """Return the bytes of a group's head that stand before its checksum."""
    head = list(HEAD_MARK + pair(serial) + pair(len(numbers)))
    for number in numbers:
        head.extend(pair(number))
    return tuple(head)


def head_of(serial, numbers, rows, block_size):
    """Return the head block of a group: block numbers and their data."""
    start = head_start(serial, numbers)
    head = start + group_sum(start, rows)
    return head + (0,) * (block_size - len(head))


def read_head(data):
    """Return (serial, block numbers, checksum) of a head block, None for an empty or damaged one."""
    if tuple(data[:2]) != HEAD_MARK or len(data) < HEAD_BASE + SUM_SIZE:
        return None
    place = HEAD_BASE + 2 * number_of_pair(data, 4)
    if place + SUM_SIZE > len(data) or any(data[place + SUM_SIZE:]):
        return None
    numbers = tuple([number_of_pair(data, at) for at in range(HEAD_BASE, place, 2)])
    return (number_of_pair(data, 2), numbers, tuple(data[place:place + SUM_SIZE]))


class Journal:
    """A device, and where the journal's blocks stand."""

    def __init__(self, device, start, count):
        self.device = device
        self.start = start
        self.blocks = count
        self.serial = 0

    def room(self):
        """Return how many blocks a group may have."""
        return head_room(self.device.block_size, self.blocks)

    def commit(self, rows):
        """Write a group of (block number, data) to the journal, then home, and clear the journal."""
        if len(rows) > self.room():
            raise JournalError('a group is too large')
        # A block that cannot be written home would stay in the journal for good, so all are looked at first.
        for number, data in rows:
            self.device.check_block(number, data)
        self.write_group(rows)
        self.write_home(rows)
        self.serial = self.serial + 1

    def write_group(self, rows):
        """Write a group's data and head to the journal; the group counts once the head is kept."""
        numbers = [number for number, data in rows]
        datas = [data for number, data in rows]
        for place, data in enumerate(datas):
            self.device.write_block(self.start + 1 + place, data)
        self.device.flush()
        self.device.write_block(self.start, head_of(self.serial + 1, numbers, datas, self.device.block_size))
        self.device.flush()

    def write_home(self, rows):
        """Write a group's blocks to their places, and clear the journal."""
        for number, data in rows:
            self.device.write_block(number, data)
        self.device.flush()
        self.device.write_block(self.start, (0,) * self.device.block_size)
        self.device.flush()

    def pending(self):
        """Return the (block number, data) of the group that the journal holds, [] for an empty or damaged one."""
        found = read_head(self.device.read(self.start))
        if found is None:
            return []
        serial, numbers, checksum = found
        if len(numbers) > self.room():
            return []
        datas = [self.device.read(self.start + 1 + place) for place in range(len(numbers))]
        if group_sum(head_start(serial, numbers), datas) != checksum:
            return []
        return list(zip(numbers, datas))

    def recover(self):
        """Write home the group that the journal holds, if there is one; return its blocks' numbers."""
        rows = self.pending()
        if rows != []:
            self.write_home(rows)
        return tuple([number for number, data in rows])
