"""Blocks: which blocks are used, and which blocks a file has."""

from hoststack.errors import FileError
from hoststack.inode import DIRECT, FREE, fresh_inode, inode_bytes, inode_from
from hoststack.layout import INODE_SIZE, ROOT, parts
from hoststack.letters import number_of_pair, pair


class Blocks:
    """A cache and a layout: the bitmap of blocks, the table of inodes, and files' blocks.

    Inodes that are passed in are never changed: what a call makes of one is returned, and put_inode keeps it.
    """

    def __init__(self, cache, layout):
        self.cache = cache
        self.layout = layout

    def change_block(self, number, data):
        """Change a block within the open operation, if it has other bytes: operations have room for few blocks."""
        if self.cache.read_block(number) != data:
            self.cache.put(number, data)

    def is_used(self, number):
        """Return True if a block is used."""
        block, byte, bit = self.layout.bit_place(number)
        return (self.cache.read_block(block)[byte] >> bit) & 1 == 1

    def unused_in(self, block, many):
        """Return the first so many unused blocks of which a block of the bitmap tells."""
        bits = 8 * self.layout.block_size
        first = (block - self.layout.bitmap_start) * bits
        data = self.cache.read_block(block)
        found = []
        for place, byte in enumerate(data):
            if byte != 255 and len(found) < many:
                numbers = [first + 8 * place + bit for bit in range(8) if (byte >> bit) & 1 == 0]
                found.extend([number for number in numbers if number < self.layout.total])
        return found[:many]

    def unused(self, many):
        """Return the first so many unused blocks, fewer if there are fewer."""
        found = []
        for block in range(self.layout.bitmap_start, self.layout.data_start):
            if len(found) < many:
                found.extend(self.unused_in(block, many - len(found)))
        return found

    def free_count(self):
        """Return the number of unused blocks."""
        return len(self.unused(self.layout.total))

    def mark(self, numbers, used):
        """Let the bitmap tell that blocks are used, or that they are not."""
        for number in numbers:
            block, byte, bit = self.layout.bit_place(number)
            data = list(self.cache.read_block(block))
            data[byte] = data[byte] | (1 << bit) if used else data[byte] & ~(1 << bit)
            self.change_block(block, tuple(data))

    def inode(self, number):
        """Return an inode; raise FileError "missing" for a number without one."""
        if not 0 <= number < self.layout.inodes:
            raise FileError('missing')
        block, offset = self.layout.inode_place(number)
        return inode_from(self.cache.read_block(block)[offset:offset + INODE_SIZE])

    def put_inode(self, number, inode):
        """Change an inode of the table within the open operation."""
        block, offset = self.layout.inode_place(number)
        data = self.cache.read_block(block)
        self.change_block(block, data[:offset] + inode_bytes(inode) + data[offset + INODE_SIZE:])

    def free_inode(self, number):
        """Free an inode and its blocks within the open operation."""
        self.without_blocks(self.inode(number), 0)
        self.put_inode(number, fresh_inode(FREE, 0, 0))

    def first_free_inode(self):
        """Return the number of the first free inode; raise FileError "no inodes" if there is none."""
        for number in range(ROOT, self.layout.inodes):
            if self.inode(number).kind == FREE:
                return number
        raise FileError('no inodes')

    def is_data(self, number):
        """Return True if a block is one of the data's."""
        return self.layout.data_start <= number < self.layout.total

    def most_blocks(self):
        """Return how many blocks a file may have."""
        return DIRECT + self.layout.block_size // 2

    def places(self, inode):
        """Return the block at each place of a file, 0 for a hole."""
        return list(inode.direct) + self.indirect_places(inode)

    def indirect_places(self, inode):
        """Return the blocks of which a file's indirect block tells; one outside of the device tells of none."""
        if not 0 < inode.indirect < self.layout.total:
            return [0] * (self.layout.block_size // 2)
        data = self.cache.read_block(inode.indirect)
        return [number_of_pair(data, 2 * place) for place in range(self.layout.block_size // 2)]

    def put_indirect(self, number, places):
        """Let an indirect block tell of the blocks at a file's places."""
        data = []
        for place in places[DIRECT:]:
            data.extend(pair(place))
        # A block of an odd size has a byte that tells of no block.
        data.extend([0] * (self.layout.block_size - len(data)))
        self.change_block(number, tuple(data))

    def with_places(self, inode, places, indirect):
        """Return an inode that has blocks at places."""
        if indirect != 0:
            self.put_indirect(indirect, places)
        return inode.with_blocks(tuple(places[:DIRECT]), indirect)

    def without_blocks(self, inode, first):
        """Return an inode without its blocks from a place on, which are freed."""
        places = self.places(inode)
        freed = places[first:]
        indirect = inode.indirect
        if first <= DIRECT and indirect != 0:
            freed.append(indirect)
            indirect = 0
        # Holes are no data, and what a damaged inode tells outside of the data has no bit to be cleared.
        self.mark([number for number in freed if self.is_data(number)], False)
        return self.with_places(inode, places[:first] + [0] * (len(places) - first), indirect)

    def blocks_of(self, inode):
        """Return the numbers of all blocks of a file, its indirect block first, in the order of their places."""
        return [number for number in [inode.indirect] + self.places(inode) if number != 0]

    def block_at(self, places, place):
        """Return the bytes of a file's block at a place, zeros for a hole."""
        if places[place] == 0:
            return (0,) * self.layout.block_size
        return self.cache.read_block(places[place])

    def read_data(self, inode, offset, many):
        """Return the bytes of a file from an offset on, at most so many; holes are zeros."""
        size = self.layout.block_size
        end = min(offset + many, inode.size, self.most_blocks() * size)
        if offset >= end:
            return ()
        places = self.places(inode)
        first = offset // size
        found = []
        for place in range(first, parts(end, size)):
            found.extend(self.block_at(places, place))
        return tuple(found[offset - first * size:end - first * size])

    def write_data(self, inode, offset, data):
        """Return an inode into which bytes are written from an offset on; raise FileError "no space" or "too large"."""
        size = self.layout.block_size
        end = offset + len(data)
        if len(data) == 0:
            return inode
        if end > self.most_blocks() * size:
            raise FileError('too large')
        wanted = list(range(offset // size, parts(end, size)))
        old = self.places(inode)
        found = self.with_room(inode, [place for place in wanted if old[place] == 0])
        new = self.places(found)
        for place in wanted:
            # A block that was unused holds what its last file left in it.
            row = list(self.block_at(old, place))
            low = max(offset, place * size)
            high = min(end, place * size + size)
            row[low - place * size:high - place * size] = data[low - offset:high - offset]
            self.change_block(new[place], tuple(row))
        return found.with_size(max(inode.size, end))

    def with_room(self, inode, holes):
        """Return an inode with blocks at places that were holes; raise FileError "no space"."""
        places = self.places(inode)
        direct = [place for place in holes if place < DIRECT]
        indirect = inode.indirect
        lacks = 1 if indirect == 0 and len(direct) < len(holes) else 0
        numbers = self.unused(len(holes) + lacks)
        if len(numbers) < len(holes) + lacks:
            raise FileError('no space')
        self.mark(numbers, True)
        if lacks == 1:
            indirect = numbers.pop(len(direct))
        for place, number in zip(holes, numbers):
            places[place] = number
        return self.with_places(inode, places, indirect)

    def cut_data(self, inode, size):
        """Return an inode of another size: what is cut off is freed and zeroed, what is added is a hole."""
        block = self.layout.block_size
        if size > self.most_blocks() * block:
            raise FileError('too large')
        if size >= inode.size:
            return inode.with_size(size)
        found = self.without_blocks(inode, parts(size, block))
        self.clear_from(found, size)
        return found.with_size(size)

    def clear_from(self, inode, size):
        """Write zeros behind a size in a file's last block, for the file may grow again."""
        block = self.layout.block_size
        kept = size % block
        number = self.places(inode)[size // block] if kept != 0 else 0
        if number != 0:
            self.change_block(number, self.cache.read_block(number)[:kept] + (0,) * (block - kept))
