import unittest

from hoststack.errors import FileError
from hoststack.layout import Layout, layout_from
from tests.helpers import word_of

SHAPES = [(64, 200, 64), (64, 29, 2), (65, 300, 3), (100, 5000, 77), (128, 1000, 1000), (512, 65535, 1000),
          (1024, 29, 40), (4096, 65535, 1000), (4096, 200, 2), (64, 65535, 1000)]


class LayoutTest(unittest.TestCase):
    def test_fields(self):
        layout = Layout(64, 600, 64)
        self.assertEqual((layout.block_size, layout.total, layout.inodes), (64, 600, 64))
        self.assertEqual((layout.journal_start, layout.table_start), (1, 26))
        self.assertEqual((layout.bitmap_start, layout.data_start), (58, 60))

    def test_parts_one_after_another_without_overlap(self):
        for size, count, inodes in SHAPES:
            layout = Layout(size, count, inodes)
            self.assertEqual((layout.block_size, layout.total, layout.inodes), (size, count, inodes))
            in_block = size // 24
            self.assertEqual(layout.journal_start, 1)
            self.assertEqual(layout.table_start, layout.journal_start + 25)
            self.assertEqual(layout.bitmap_start, layout.table_start + -(-inodes // in_block))
            self.assertEqual(layout.data_start, layout.bitmap_start + -(-count // (8 * size)))
            self.assertLess(layout.data_start, count)

    def test_inodes_have_places_of_their_own(self):
        for size, count, inodes in SHAPES:
            layout = Layout(size, count, inodes)
            found = [layout.inode_place(number) for number in range(inodes)]
            self.assertEqual(found, sorted(found))
            self.assertEqual(len(set(found)), inodes)
            for block, offset in found:
                self.assertTrue(layout.table_start <= block < layout.bitmap_start)
                self.assertEqual(offset % 24, 0)
                self.assertLessEqual(offset + 24, size)
        self.assertEqual(Layout(64, 200, 64).inode_place(0), (26, 0))
        self.assertEqual(Layout(64, 200, 64).inode_place(3), (27, 24))

    def test_blocks_have_bits_of_their_own(self):
        for size, count, inodes in SHAPES:
            layout = Layout(size, count, inodes)
            found = {layout.bit_place(number) for number in range(count)}
            self.assertEqual(len(found), count)
            for block, byte, bit in found:
                self.assertTrue(layout.bitmap_start <= block < layout.data_start)
                self.assertTrue(0 <= byte < size and 0 <= bit < 8)
        layout = Layout(64, 600, 64)
        self.assertEqual([layout.bit_place(number) for number in (0, 7, 8, 511, 512)],
                         [(58, 0, 0), (58, 0, 7), (58, 1, 0), (58, 63, 7), (59, 0, 0)])

    def test_bounds(self):
        for shape in ((64, 200, 64), (4096, 200, 64), (64, 200, 2), (64, 65535, 1000), (64, 29, 2), (4096, 34, 1000)):
            Layout(*shape)
        for shape in ((63, 200, 64), (4097, 400, 64), (0, 200, 64), (64, 200, 1), (64, 200, 0), (64, 65535, 1001),
                      (64, 65536, 64), (64, 28, 2), (64, 0, 2), (64, -1, 2), (-64, 200, 2)):
            self.assertEqual(word_of(lambda: Layout(*shape)), 'bad layout', shape)

    def test_one_block_of_data_at_least(self):
        for size, inodes, least in ((64, 2, 29), (64, 4, 30), (64, 1000, 529), (128, 5, 29), (4096, 1000, 34)):
            self.assertEqual(Layout(size, least, inodes).data_start, least - 1)
            for count in (least - 1, least - 2, 1):
                self.assertEqual(word_of(lambda: Layout(size, count, inodes)), 'bad layout')


class SuperblockTest(unittest.TestCase):
    def test_bytes(self):
        told = (72, 70, 2, 0, 1, 44, 0, 77)
        self.assertEqual(Layout(512, 300, 77).superblock(), told + (0,) * 504)

    def test_there_and_back(self):
        for shape in SHAPES:
            layout = Layout(*shape)
            data = layout.superblock()
            self.assertEqual(len(data), layout.block_size)
            found = layout_from(data)
            self.assertEqual((found.block_size, found.total, found.inodes), shape)
            self.assertEqual(found.data_start, layout.data_start)
            self.assertEqual(layout_from(list(data)).total, layout.total)

    def test_other_blocks(self):
        data = Layout(64, 200, 64).superblock()
        for other in ((0,) * 64, (72, 71) + data[2:], (73, 70) + data[2:], data + (0,), data[:-1],
                      data[:2] + (0, 65) + data[4:]):
            self.assertEqual(word_of(lambda: layout_from(other)), 'not formatted')

    def test_bad_numbers(self):
        data = Layout(64, 200, 64).superblock()
        for other in (data[:4] + (0, 10) + data[6:], data[:6] + (0, 1) + data[8:], data[:6] + (4, 0) + data[8:]):
            with self.assertRaises(FileError) as told:
                layout_from(other)
            self.assertEqual(told.exception.word, 'bad layout')


if __name__ == '__main__':
    unittest.main()
