"""Checks of sound file systems, and of ones damaged in each way that the document lists."""

import unittest

from hoststack.check import Report, check, count_links
from hoststack.errors import CheckError, FileError
from hoststack.files import mount
from hoststack.names import link, rename, unlink
from tests.helpers import damage, in_operation, new_files, set_entries, word_of


def some_files():
    """Return a file system with /a, /b (the same file as /d/b), /d, /d/e, /l and an empty file."""
    files = new_files()
    files.write(files.create('/a'), 0, 'a' * 150)
    files.write(files.create('/b'), 0, 'b' * 70)
    files.make_folder('/d')
    files.make_folder('/d/e')
    link(files, '/b', '/d/b')
    files.make_link('/l', 'd/e')
    files.create('/none')
    return files


class ReportTest(unittest.TestCase):
    def test_fields(self):
        sorts = {'link': 2, 'file': 3}
        report = Report(sorts, 7, 9)
        self.assertEqual((report.sorts, report.blocks, report.names), (sorts, 7, 9))
        self.assertEqual(report.shown(), ((('file', 3), ('link', 2)), 7, 9))
        self.assertEqual(Report({}, 0, 0).shown(), ((), 0, 0))
        self.assertIsInstance(report.sorts, dict)


class SoundTest(unittest.TestCase):
    def test_a_new_file_system(self):
        files = new_files()
        self.assertEqual(check(files).shown(), ((('folder', 1),), 0, 0))
        self.assertEqual(count_links(files), {1: 1})

    def test_some_files(self):
        files = some_files()
        # /a has three blocks, /b two, and the root, /d and the link one each.
        self.assertEqual(check(files).shown(), ((('file', 3), ('folder', 3), ('link', 1)), 8, 7))
        self.assertEqual(count_links(files), {1: 1, 2: 1, 3: 2, 4: 1, 5: 1, 6: 1, 7: 1})
        files.sync()
        again = mount(files.cache.journal.device.restarted(()))
        self.assertEqual(check(again).shown(), check(files).shown())

    def test_indirect_blocks_and_holes(self):
        files = new_files()
        files.write(files.create('/f'), 64 * 20, 'x')
        report = check(files)
        self.assertEqual((report.sorts['file'], report.blocks, report.names), (1, 3, 1))

    def test_a_file_that_is_open(self):
        files = some_files()
        files.hold(2)
        unlink(files, '/a')
        report = check(files)
        self.assertEqual((report.sorts['file'], report.names, report.blocks), (3, 6, 8))
        self.assertNotIn(2, count_links(files))
        files.let_go(2)
        self.assertEqual((check(files).sorts['file'], check(files).blocks), (2, 5))

    def test_a_check_changes_nothing(self):
        files = some_files()
        files.sync()
        steps = files.cache.journal.device.steps
        check(files)
        self.assertEqual((files.cache.dirty, files.cache.before, files.cache.journal.device.steps), ({}, None, steps))

    def test_what_a_free_inode_tells_does_not_count(self):
        files = some_files()
        damage(files, 30, links=5, size=10 ** 6, direct=(1, 2, 3, 4, 5, 6))
        self.assertEqual(check(files).blocks, 8)


class DamageTest(unittest.TestCase):
    def setUp(self):
        self.files = some_files()

    def wrong(self):
        with self.assertRaises(CheckError):
            check(self.files)

    def test_unknown_classes(self):
        for kind in (4, 5, 255):
            self.files = some_files()
            damage(self.files, 2, kind=kind)
            self.wrong()
        self.files = some_files()
        damage(self.files, 40, kind=9)
        self.wrong()

    def test_too_large(self):
        for size, fine in ((38 * 64, True), (38 * 64 + 1, False), (2 ** 32 - 1, False)):
            damage(self.files, 2, size=size)
            if fine:
                check(self.files)
            else:
                self.wrong()

    def test_links(self):
        for number in range(1, 8):
            for links in (0, 3, 65535):
                self.files = some_files()
                damage(self.files, number, links=links)
                self.wrong()

    def test_lost_files(self):
        for name in ('a', 'd', 'l', 'none', 'b'):
            self.files = some_files()
            entries = self.files.entries(1)
            del entries[name]
            set_entries(self.files, 1, entries)
            self.wrong()

    def test_a_lost_file_without_links(self):
        entries = self.files.entries(1)
        del entries['a']
        set_entries(self.files, 1, entries)
        damage(self.files, 2, links=0)
        self.wrong()
        self.files.hold(2)
        check(self.files)

    def test_blocks_outside(self):
        for block in (1, self.files.layout.data_start - 1, self.files.layout.total, 65535):
            self.files = some_files()
            damage(self.files, 7, direct=(block, 0, 0, 0, 0, 0))
            self.wrong()
            for fields in ({'indirect': block}, {'direct': (0, 0, block, 0, 0, 0)}):
                for number in (1, 2, 4, 6, 7):
                    self.files = some_files()
                    damage(self.files, number, **fields)
                    self.wrong()

    def test_blocks_used_twice(self):
        block = self.files.blocks.inode(2).direct[0]
        damage(self.files, 7, direct=(0, block, 0, 0, 0, 0))
        self.wrong()
        self.files = some_files()
        damage(self.files, 2, direct=(block, block, 0, 0, 0, 0))
        self.wrong()

    def test_bitmap(self):
        unused = self.files.blocks.unused(1)[0]
        for block in (0, 1, self.files.layout.data_start, unused, self.files.layout.total - 1):
            self.files = some_files()
            in_operation(self.files, lambda: self.files.blocks.mark([block], block >= unused))
            self.wrong()

    def test_names_that_stand_for_nothing(self):
        for number in (0, 40, 63, 64, 65535):
            self.files = some_files()
            set_entries(self.files, 5, {'x': number})
            self.wrong()
            with self.assertRaises(CheckError):
                count_links(self.files)

    def test_folders_with_two_names(self):
        for number in (1, 4, 5):
            self.files = some_files()
            set_entries(self.files, 5, {'x': number})
            damage(self.files, number, links=2)
            self.wrong()
            with self.assertRaises(CheckError):
                count_links(self.files)

    def test_folders_that_cannot_be_read(self):
        damage(self.files, 5, size=2)
        self.wrong()
        with self.assertRaises(CheckError):
            count_links(self.files)

    def test_folders_with_what_is_no_character(self):
        entries = self.files.blocks.inode(1)
        data = self.files.blocks.read_data(entries, 0, entries.size)
        in_operation(self.files, lambda: self.files.blocks.write_data(entries, 3, (200,)))
        self.assertNotEqual(self.files.blocks.read_data(entries, 0, entries.size), data)
        self.assertEqual(word_of(lambda: check(self.files)), 'bad text')
        self.assertEqual(word_of(lambda: count_links(self.files)), 'bad text')

    def test_a_root_that_is_none(self):
        for kind in (0, 1, 3, 7):
            self.files = some_files()
            damage(self.files, 1, kind=kind)
            self.assertEqual(word_of(lambda: check(self.files)), 'not a folder')

    def test_a_ring_of_folders(self):
        entries = self.files.entries(1)
        del entries['d']
        set_entries(self.files, 1, entries)
        set_entries(self.files, 5, {'x': 4})
        self.wrong()

    def test_errors_are_of_their_own(self):
        self.assertFalse(issubclass(CheckError, FileError))
        rename(self.files, '/a', '/d/e/a')
        check(self.files)


if __name__ == '__main__':
    unittest.main()
