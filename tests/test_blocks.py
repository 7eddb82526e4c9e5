import unittest

from hoststack.errors import FileError
from hoststack.inode import FILE, fresh_inode
from tests.helpers import in_operation, new_files, word_of


def pattern(many, first=1):
    return tuple((first + place * 7) % 251 + 1 for place in range(many))


class BlocksTest(unittest.TestCase):
    def setUp(self):
        self.files = new_files(64, 200)
        self.blocks = self.files.blocks
        self.start = self.files.layout.data_start
        self.free = self.blocks.free_count()
        self.empty = fresh_inode(FILE, 52, 0)

    def write(self, inode, offset, data):
        return in_operation(self.files, lambda: self.blocks.write_data(inode, offset, data))

    def cut(self, inode, size):
        return in_operation(self.files, lambda: self.blocks.cut_data(inode, size))

    def whole(self, inode):
        return self.blocks.read_data(inode, 0, inode.size)

    def grown(self, size):
        """Return an inode of a size, written a few blocks at a time, as the journal has room for."""
        inode = self.empty
        for offset in range(0, size, 192):
            inode = self.write(inode, offset, pattern(size)[offset:offset + 192])
        return inode

    def test_fields(self):
        self.assertIs(self.blocks.cache, self.files.cache)
        self.assertIs(self.blocks.layout, self.files.layout)

    def test_a_new_bitmap(self):
        found = [number for number in range(200) if self.blocks.is_used(number)]
        self.assertEqual(found, list(range(self.start)))
        self.assertEqual(self.free, 200 - self.start)
        for size, count, inodes in ((64, 1200, 2), (100, 801, 50), (64, 31, 4), (512, 65535, 9), (64, 2000, 1000)):
            files = new_files(size, count, inodes)
            self.assertEqual(files.blocks.free_count(), count - files.layout.data_start)
            self.assertTrue(files.blocks.is_used(files.layout.data_start - 1))
            self.assertFalse(files.blocks.is_used(files.layout.data_start))
            self.assertFalse(files.blocks.is_used(count - 1))
            self.assertTrue(all(files.blocks.is_used(number) for number in range(files.layout.data_start)))

    def test_inodes(self):
        self.assertEqual(self.blocks.inode(1).shown(), ('folder', 63, 0, 1, 0, (0,) * 6, 0))
        self.assertEqual(self.blocks.inode(63).shown()[0], 'free')
        self.assertEqual(self.blocks.inode(0).shown()[0], 'free')
        for number in (-1, 64, 65, 1000):
            self.assertEqual(word_of(lambda: self.blocks.inode(number)), 'missing')

    def test_most_blocks(self):
        self.assertEqual(self.blocks.most_blocks(), 38)
        self.assertEqual(new_files(65, 200).blocks.most_blocks(), 38)
        self.assertEqual(new_files(4096, 200).blocks.most_blocks(), 2054)

    def test_direct_blocks_alone(self):
        inode = self.grown(384)
        self.assertEqual((inode.size, inode.indirect), (384, 0))
        self.assertEqual(inode.direct, tuple(range(self.start, self.start + 6)))
        self.assertEqual(self.blocks.blocks_of(inode), list(inode.direct))
        self.assertEqual(self.whole(inode), pattern(384))
        self.assertEqual(self.blocks.free_count(), self.free - 6)

    def test_an_indirect_block(self):
        inode = self.grown(385)
        self.assertNotEqual(inode.indirect, 0)
        found = self.blocks.blocks_of(inode)
        self.assertEqual(found[0], inode.indirect)
        self.assertEqual(tuple(found[1:7]), inode.direct)
        self.assertEqual(sorted(found), list(range(self.start, self.start + 8)))
        self.assertEqual(self.whole(inode), pattern(385))
        self.assertEqual(self.blocks.free_count(), self.free - 8)

    def test_an_inode_that_is_passed_in_stays(self):
        inode = self.grown(400)
        before = inode.shown()
        self.write(inode, 400, pattern(60))
        self.cut(inode, 3)
        self.assertEqual(inode.shown(), before)
        self.assertEqual(self.empty.shown(), fresh_inode(FILE, 52, 0).shown())

    def test_parts_that_are_read(self):
        inode = self.grown(500)
        data = pattern(500)
        for offset in (0, 1, 63, 64, 65, 383, 384, 499, 500, 501, 5000):
            for many in (0, 1, 63, 64, 65, 200, 1000):
                self.assertEqual(self.blocks.read_data(inode, offset, many), data[offset:offset + many])
        self.assertEqual(self.blocks.read_data(self.empty, 0, 10), ())

    def test_writes_over_what_is_there(self):
        inode = self.grown(300)
        inode = self.write(inode, 60, (250,) * 10)
        self.assertEqual(self.whole(inode), pattern(300)[:60] + (250,) * 10 + pattern(300)[70:])
        inode = self.write(inode, 299, (1, 2))
        self.assertEqual((inode.size, self.whole(inode)[298:]), (301, (pattern(300)[298], 1, 2)))
        self.assertEqual(self.blocks.free_count(), self.free - 5)

    def test_writing_nothing(self):
        for offset in (0, 10, 5000, 10 ** 6):
            inode = self.write(self.empty, offset, ())
            self.assertEqual(inode.shown(), self.empty.shown())
        self.assertEqual(self.blocks.free_count(), self.free)

    def test_holes(self):
        inode = self.write(self.empty, 150, (5, 6))
        self.assertEqual(self.whole(inode), (0,) * 150 + (5, 6))
        self.assertEqual(inode.direct, (0, 0, self.start, 0, 0, 0))
        self.assertEqual(self.blocks.blocks_of(inode), [self.start])
        inode = self.write(inode, 2400, (7,))
        self.assertEqual(self.whole(inode), (0,) * 150 + (5, 6) + (0,) * 2248 + (7,))
        self.assertEqual(self.blocks.free_count(), self.free - 3)
        self.assertEqual(self.blocks.blocks_of(inode)[:2], [inode.indirect, self.start])
        inode = self.write(inode, 63, (8, 9))
        self.assertEqual(self.whole(inode)[60:70], (0, 0, 0, 8, 9, 0, 0, 0, 0, 0))
        self.assertEqual(self.blocks.free_count(), self.free - 5)

    def test_a_block_that_was_used_before_begins_with_zeros(self):
        inode = self.grown(384)
        self.cut(inode, 0)
        inode = self.write(self.empty, 10, (1,))
        self.assertEqual(inode.direct[0], self.start)
        self.assertEqual(self.whole(inode), (0,) * 10 + (1,))
        longer = self.cut(inode, 64)
        self.assertEqual(self.whole(longer), (0,) * 10 + (1,) + (0,) * 53)
        inode = self.write(inode, 400, (1,))
        self.assertEqual(self.whole(inode), (0,) * 10 + (1,) + (0,) * 389 + (1,))

    def test_the_greatest_size_and_one_more(self):
        inode = self.grown(38 * 64)
        self.assertEqual(inode.size, 2432)
        self.assertEqual(self.whole(inode), pattern(2432))
        self.assertEqual(self.blocks.free_count(), self.free - 39)
        for offset, many in ((2432, 1), (2431, 2), (10 ** 6, 1), (0, 2433)):
            self.assertEqual(word_of(lambda: self.write(inode, offset, (1,) * many)), 'too large')
            self.files.cache.undo()
        self.assertEqual(self.write(inode, 2431, (1,)).size, 2432)
        self.assertEqual(self.cut(self.empty, 2432).size, 2432)
        self.assertEqual(word_of(lambda: self.cut(self.empty, 2433)), 'too large')
        self.files.cache.undo()
        self.assertEqual(self.blocks.free_count(), self.free - 39)

    def test_the_first_unused_blocks_are_used(self):
        first = self.write(self.empty, 0, (1,) * 192)
        second = self.write(self.empty, 0, (2,) * 128)
        third = self.write(self.empty, 0, (3,) * 64)
        self.cut(first, 0)
        self.cut(third, 0)
        self.assertFalse(self.blocks.is_used(self.start))
        self.assertTrue(self.blocks.is_used(self.start + 3))
        inode = self.write(self.empty, 0, (4,) * 320)
        self.assertEqual(inode.direct[:5], tuple(self.start + place for place in (0, 1, 2, 5, 6)))
        self.assertEqual(self.whole(second), (2,) * 128)

    def test_no_space(self):
        files = new_files(64, 68, 4)
        blocks = files.blocks
        many = blocks.free_count()
        self.assertEqual(many, 68 - files.layout.data_start)
        inodes = []
        while blocks.free_count() >= 6:
            inodes.append(in_operation(files, lambda: blocks.write_data(self.empty, 0, (1,) * 384)))
        left = blocks.free_count()
        full = in_operation(files, lambda: blocks.write_data(self.empty, 0, (1,) * 64 * left))
        self.assertEqual(blocks.free_count(), 0)
        files.cache.begin()
        before = dict(files.cache.dirty)
        for inode, offset in ((self.empty, 0), (full, 64 * left), (inodes[0], 384)):
            self.assertEqual(word_of(lambda: blocks.write_data(inode, offset, (1,))), 'no space')
        self.assertEqual((files.cache.dirty, files.cache.before), (before, {}))
        self.assertEqual(blocks.write_data(full, 0, (2,)).size, 64 * left)
        files.cache.end()

    def test_the_indirect_block_needs_space_too(self):
        files = new_files(64, 36, 4)
        blocks = files.blocks
        self.assertEqual(blocks.free_count(), 7)
        inode = in_operation(files, lambda: blocks.write_data(self.empty, 0, (1,) * 384))
        self.assertEqual(blocks.free_count(), 1)
        files.cache.begin()
        self.assertEqual(word_of(lambda: blocks.write_data(inode, 384, (1,))), 'no space')
        files.cache.undo()
        self.assertEqual(blocks.free_count(), 1)

    def test_cut_shorter(self):
        for size in (699, 640, 449, 448, 447, 385, 384, 383, 320, 200, 65, 64, 63, 1, 0):
            with self.subTest(size=size):
                self.setUp()
                inode = self.cut(self.grown(700), size)
                self.assertEqual(self.whole(inode), pattern(700)[:size])
                used = -(-size // 64)
                self.assertEqual(self.blocks.free_count(), self.free - used - (1 if used > 6 else 0))
                self.assertEqual(len(self.blocks.blocks_of(inode)), used + (1 if used > 6 else 0))
                self.assertEqual(inode.indirect == 0, used <= 6)
                longer = self.cut(inode, 700)
                self.assertEqual(self.whole(longer), pattern(700)[:size] + (0,) * (700 - size))
                self.assertEqual(self.blocks.blocks_of(longer), self.blocks.blocks_of(inode))
                written = self.write(longer, 699, (9,))
                self.assertEqual(self.whole(written), pattern(700)[:size] + (0,) * (699 - size) + (9,))

    def test_cut_longer(self):
        inode = self.grown(100)
        longer = self.cut(inode, 2000)
        self.assertEqual((longer.size, longer.direct, longer.indirect), (2000, inode.direct, 0))
        self.assertEqual(self.whole(longer), pattern(100) + (0,) * 1900)
        self.assertEqual(self.cut(inode, 100).shown(), inode.shown())

    def test_cut_within_a_hole(self):
        inode = self.write(self.empty, 300, (1, 2, 3))
        shorter = self.cut(inode, 100)
        self.assertEqual((shorter.size, shorter.direct), (100, (0,) * 6))
        self.assertEqual(self.whole(shorter), (0,) * 100)
        self.assertEqual(self.blocks.free_count(), self.free)

    def test_without_blocks(self):
        for first in (0, 1, 5, 6, 7, 9, 10, 11, 38):
            with self.subTest(first=first):
                self.setUp()
                inode = self.grown(640)
                found = in_operation(self.files, lambda: self.blocks.without_blocks(inode, first))
                data = inode.direct + tuple(self.blocks.blocks_of(inode)[7:])
                kept = list(data[:first])
                self.assertEqual(sorted(self.blocks.blocks_of(found)), sorted(kept + [inode.indirect] * (first > 6)))
                self.assertEqual([number for number in found.direct if number != 0], kept[:6])
                for number in data + (inode.indirect,):
                    wanted = number in kept or (number == inode.indirect and first > 6)
                    self.assertEqual(self.blocks.is_used(number), wanted)

    def test_an_operation_is_needed(self):
        for deed in (lambda: self.blocks.write_data(self.empty, 0, (1,)),):
            with self.assertRaises(ValueError) as told:
                deed()
            self.assertNotIsInstance(told.exception, FileError)
        self.assertEqual(self.blocks.free_count(), self.free)

    def test_odd_blocks(self):
        files = new_files(65, 200)
        inode = self.empty
        data = pattern(38 * 65)
        for offset in range(0, len(data), 130):
            chunk = data[offset:offset + 130]
            inode = in_operation(files, lambda: files.blocks.write_data(inode, offset, chunk))
        self.assertEqual(files.blocks.read_data(inode, 0, inode.size), data)


if __name__ == '__main__':
    unittest.main()
