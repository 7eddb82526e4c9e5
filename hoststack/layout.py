"""Layout: where a file system's parts stand on a device.

Block 0 is the superblock; then come the journal, the inode table, the bitmap of blocks, and the data.
"""

from hoststack.errors import FileError
from hoststack.letters import number_of_pair, pair

LAYOUT_MARK = (72, 70)
LEAST_SIZE = 64
MOST_SIZE = 4096
JOURNAL_BLOCKS = 25
INODE_SIZE = 24
ROOT = 1


class Layout:
    """The block size, the number of blocks, the number of inodes, and the first block of each part."""

    def __init__(self, block_size, count, inodes):
        if not LEAST_SIZE <= block_size <= MOST_SIZE or inodes < 2 or inodes > 1000 or count > 65535:
            raise FileError('bad layout')
        self.block_size = block_size
        self.total = count
        self.inodes = inodes
        self.journal_start = 1
        self.table_start = self.journal_start + JOURNAL_BLOCKS
        self.bitmap_start = self.table_start + parts(inodes, block_size // INODE_SIZE)
        self.data_start = self.bitmap_start + parts(count, 8 * block_size)
        if self.data_start >= count:
            raise FileError('bad layout')

    def inode_place(self, number):
        """Return (block, offset) of an inode in the table."""
        in_block = self.block_size // INODE_SIZE
        return (self.table_start + number // in_block, number % in_block * INODE_SIZE)

    def bit_place(self, number):
        """Return (block, byte, bit) of a block in the bitmap."""
        byte = number // 8
        return (self.bitmap_start + byte // self.block_size, byte % self.block_size, number % 8)

    def superblock(self):
        """Return the superblock's bytes."""
        told = LAYOUT_MARK + pair(self.block_size) + pair(self.total) + pair(self.inodes)
        return told + (0,) * (self.block_size - len(told))


def parts(many, size):
    """Return how many parts of a size hold so many things."""
    return (many + size - 1) // size


def layout_from(data):
    """Return the layout that a superblock tells; raise FileError "not formatted" for another block."""
    if tuple(data[:2]) != LAYOUT_MARK or number_of_pair(data, 2) != len(data):
        raise FileError('not formatted')
    return Layout(number_of_pair(data, 2), number_of_pair(data, 4), number_of_pair(data, 6))
