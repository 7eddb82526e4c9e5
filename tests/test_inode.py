import unittest

from hoststack.inode import Inode, fresh_inode, inode_bytes, inode_from, may, mode_text

ROWS = [(1, 52, 0, 1, 0, (0,) * 6, 0), (2, 63, 7, 3, 512, (100, 0, 300, 65535, 5, 6), 77), (3, 61, 255, 65535, 12,
        (9, 8, 7, 6, 5, 4), 65535), (0, 0, 0, 0, 0, (0,) * 6, 0), (1, 1, 2, 256, 2 ** 32 - 1, (1,) * 6, 2),
        (1, 1, 2, 3, 65536, (1,) * 6, 2)]


class InodeTest(unittest.TestCase):
    def test_fields(self):
        inode = Inode(1, 52, 3, 2, 100, (4, 5, 6, 7, 8, 9), 10)
        self.assertEqual((inode.kind, inode.mode, inode.owner, inode.links), (1, 52, 3, 2))
        self.assertEqual((inode.size, inode.direct, inode.indirect), (100, (4, 5, 6, 7, 8, 9), 10))

    def test_shown(self):
        for kind, word in ((0, 'free'), (1, 'file'), (2, 'folder'), (3, 'link')):
            inode = Inode(kind, 52, 3, 2, 100, (4, 5, 6, 7, 8, 9), 10)
            self.assertEqual(inode.shown(), (word, 52, 3, 2, 100, (4, 5, 6, 7, 8, 9), 10))

    def test_fresh(self):
        self.assertEqual(fresh_inode(1, 52, 3).shown(), ('file', 52, 3, 0, 0, (0,) * 6, 0))
        self.assertEqual(fresh_inode(2, 61, 0).shown(), ('folder', 61, 0, 0, 0, (0,) * 6, 0))

    def test_there_and_back(self):
        for row in ROWS:
            data = inode_bytes(Inode(*row))
            self.assertEqual(len(data), 24)
            self.assertTrue(all(0 <= byte <= 255 for byte in data))
            self.assertIsInstance(data, tuple)
            for form in (data, list(data)):
                self.assertEqual(inode_from(form).shown(), Inode(*row).shown())
            self.assertIsInstance(inode_from(data).direct, tuple)

    def test_bytes(self):
        data = inode_bytes(Inode(2, 61, 9, 258, 0x01020304, (1, 2, 3, 4, 5, 256), 515))
        self.assertEqual(data, (2, 61, 9, 1, 2, 1, 2, 3, 4, 0, 1, 0, 2, 0, 3, 0, 4, 0, 5, 1, 0, 2, 3, 0))

    def test_zeros_are_a_free_inode(self):
        self.assertEqual(inode_from((0,) * 24).shown(), ('free', 0, 0, 0, 0, (0,) * 6, 0))


class RightsTest(unittest.TestCase):
    BITS = {('owner', 'r'): 32, ('owner', 'w'): 16, ('owner', 'x'): 8,
            ('others', 'r'): 4, ('others', 'w'): 2, ('others', 'x'): 1}

    def test_every_mode(self):
        for mode in range(64):
            inode = fresh_inode(1, mode, 5)
            for wanted in 'rwx':
                self.assertIs(may(inode, 5, wanted), mode & self.BITS['owner', wanted] != 0)
                for user in (1, 4, 6, 255):
                    self.assertIs(may(inode, user, wanted), mode & self.BITS['others', wanted] != 0)
                self.assertIs(may(inode, 0, wanted), True)
                self.assertIs(may(fresh_inode(1, mode, 0), 0, wanted), True)
                self.assertIs(may(fresh_inode(1, mode, 0), 5, wanted), mode & self.BITS['others', wanted] != 0)

    def test_mode_text(self):
        for kind, mode, text in ((1, 52, '-rw-r--'), (2, 61, 'drwxr-x'), (3, 61, 'lrwxr-x'), (1, 0, '-------'),
                                 (2, 63, 'drwxrwx'), (1, 42, '-r-x-w-'), (1, 21, '--w-r-x')):
            self.assertEqual(mode_text(fresh_inode(kind, mode, 5)), text)

    def test_other_classes(self):
        self.assertEqual(mode_text(fresh_inode(0, 52, 5)), '-rw-r--')
        for kind in (4, 255):
            self.assertEqual(mode_text(fresh_inode(kind, 52, 5)), '-rw-r--')
            self.assertEqual(fresh_inode(kind, 52, 5).shown()[1:3], (52, 5))

    def test_every_mode_text(self):
        for mode in range(64):
            found = mode_text(fresh_inode(2, mode, 5))
            wanted = ''.join(sign if mode & bit else '-' for sign, bit in zip('rwxrwx', (32, 16, 8, 4, 2, 1)))
            self.assertEqual(found, 'd' + wanted)


if __name__ == '__main__':
    unittest.main()
