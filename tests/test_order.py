"""Deeds with two faults at once: the one that is tested first is told."""

import unittest

from hoststack.names import change_mode, change_owner, drop_folder, link, rename, unlink
from tests.helpers import FilesCase

LONG = 'n' * 31
USER = 5


class OrderCase(FilesCase):
    def setUp(self):
        FilesCase.setUp(self)
        files = self.files
        files.make_folder('/shut', mode=63)
        files.create('/shut/f')
        files.make_folder('/shut/full')
        files.create('/shut/full/f')
        files.make_folder('/shut/empty')
        files.make_folder('/free', mode=63)
        files.create('/free/f', user=USER)
        files.make_folder('/free/full', user=USER, mode=63)
        files.create('/free/full/f')
        files.make_folder('/free/empty', user=USER)
        files.make_folder('/dark')
        files.create('/dark/f')
        change_mode(files, '/shut', 61)
        change_mode(files, '/dark', 60)

    def deep(self):
        """Return the path of a folder in which no folder has room."""
        path = '/free'
        for number in range(28):
            path = path + '/d'
            self.files.make_folder(path, mode=63)
        return path

    def refuse(self, word, deed, *more):
        self.refused(word, deed, self.files, *more)


class MakeTest(OrderCase):
    def make(self, word, path, deeds='fdl'):
        files = self.files
        makers = {'f': files.create, 'd': files.make_folder, 'l': lambda *more: files.make_link(path, 'x', *more[1:])}
        for sign in deeds:
            self.refused(word, makers[sign], path, 1, USER)

    def test_the_way_is_first(self):
        self.make('missing', '/x/' + LONG)
        self.make('missing', '/shut/x/%')
        self.make('not a folder', '/shut/f/' + LONG)
        self.make('denied', '/dark/f')
        self.make('denied', '/dark/' + LONG)
        self.make('denied', '/dark/new/')

    def test_what_is_there_goes_before_rights(self):
        self.make('exists', '/shut/f')
        self.make('exists', '/shut/full/')
        self.make('not a folder', '/shut/f/')
        self.make('exists', '/shut')

    def test_the_name_goes_before_rights(self):
        self.make('bad name', '/shut/' + LONG)
        self.make('bad name', '/shut/a\n/')
        self.make('bad name', '/shut/' + '%' * 31)
        self.make('bad text', '/shut/%')

    def test_rights_go_before_a_slash(self):
        self.make('denied', '/shut/new/')
        self.make('denied', '/shut/new/.')
        self.make('not a folder', '/free/new/', 'fl')

    def test_the_end_of_the_path_goes_before_depth(self):
        path = self.deep()
        self.make('not a folder', path + '/new/', 'fl')
        self.make('too deep', path + '/new/', 'd')
        self.make('exists', path + '/../d/', 'fdl')
        self.make('bad name', path + '/' + LONG, 'd')
        change_mode(self.files, path, 61)
        self.make('denied', path + '/new/', 'fdl')

    def test_the_mode_is_last(self):
        path = self.deep()
        self.refused('denied', self.files.create, '/shut/new', 1, USER, 64)
        self.refused('exists', self.files.create, '/shut/f', 1, USER, 64)
        self.refused('not a folder', self.files.create, '/free/new/', 1, USER, 64)
        self.refused('too deep', self.files.make_folder, path + '/new/', 1, USER, 64)
        self.refused('bad mode', self.files.make_folder, '/free/new/', 1, USER, 64)

    def test_inodes_are_last(self):
        path = self.deep()
        while True:
            try:
                self.files.create(f"/free/full/{self.files.blocks.first_free_inode()}")
            except ValueError:
                break
        self.make('no inodes', '/free/new')
        self.make('exists', '/free/f')
        self.make('denied', '/shut/new')
        self.make('bad name', '/free/' + LONG)
        self.make('not a folder', '/free/new/', 'fl')
        self.make('too deep', path + '/new', 'd')


class DropTest(OrderCase):
    def test_unlink(self):
        self.refuse('missing', unlink, '/x/..', 1, USER)
        self.refuse('denied', unlink, '/dark/..', 1, USER)
        self.refuse('denied', unlink, '/dark/x', 1, USER)
        self.refuse('missing', unlink, '/shut/x', 1, USER)
        self.refuse('missing', unlink, '/shut/' + LONG, 1, USER)
        self.refuse('busy', unlink, '/shut/..', 1, USER)
        self.refuse('busy', unlink, '/shut/empty/..', 1, USER)
        self.refuse('busy', unlink, '.', self.files.resolve('/shut'), USER)
        self.refuse('not a folder', unlink, '/shut/f/', 1, USER)
        self.refuse('denied', unlink, '/shut/empty', 1, USER)
        self.refuse('is a folder', unlink, '/free/empty/', 1, USER)

    def test_drop_folder(self):
        self.refuse('missing', drop_folder, '/shut/x', 1, USER)
        self.refuse('busy', drop_folder, '/shut/full/..', 1, USER)
        self.refuse('busy', drop_folder, '/', 1, USER)
        self.refuse('denied', drop_folder, '/shut/f', 1, USER)
        self.refuse('not a folder', drop_folder, '/shut/f/', 1, USER)
        self.refuse('denied', drop_folder, '/shut/full', 1, USER)
        self.refuse('not a folder', drop_folder, '/free/f', 1, USER)
        self.refuse('not empty', drop_folder, '/free/full', 1, USER)

    def test_folders_in_use_go_before_rights(self):
        for path in ('/shut/full', '/shut/empty', '/free/full'):
            self.files.hold(self.files.resolve(path))
            self.refuse('busy', drop_folder, path, 1, USER)


class LinkTest(OrderCase):
    def refuse_link(self, word, old, new):
        self.refuse(word, link, old, new, 1, USER)

    def test_the_first_path_is_first(self):
        self.refuse_link('missing', '/x/y', '/x/y/z')
        self.refuse_link('missing', '/shut/x', '/dark/y')
        self.refuse_link('denied', '/dark/f', '/x/y')
        self.refuse_link('is a folder', '/shut/full', '/x/y')
        self.refuse_link('is a folder', '/', '/dark/y')
        self.refuse_link('is a folder', '..', '/shut/f')
        self.refuse_link('not a folder', '/shut/f/', '/x/y')

    def test_the_second_path(self):
        self.refuse_link('missing', '/free/f', '/x/' + LONG)
        self.refuse_link('denied', '/free/f', '/dark/f')
        self.refuse_link('exists', '/free/f', '/shut/f')
        self.refuse_link('bad name', '/free/f', '/shut/' + LONG)
        self.refuse_link('bad text', '/free/f', '/shut/%')
        self.refuse_link('denied', '/free/f', '/shut/x')


class RenameTest(OrderCase):
    def refuse_move(self, word, old, new):
        self.refuse(word, rename, old, new, 1, USER)

    def test_the_first_path_is_first(self):
        self.refuse_move('missing', '/shut/x', '/')
        self.refuse_move('missing', '/x/y', '/dark/y')
        self.refuse_move('denied', '/dark/f', '/x/y')
        self.refuse_move('busy', '/', '/x/y')
        self.refuse_move('busy', '/shut/full/..', '/dark/y')
        self.refuse_move('not a folder', '/shut/f/', '/x/y')

    def test_the_second_path(self):
        self.refuse_move('missing', '/shut/f', '/x/' + LONG)
        self.refuse_move('denied', '/free/f', '/dark/' + LONG)
        self.refuse_move('busy', '/shut/f', '/')
        self.refuse_move('busy', '/shut/f', '/shut/full/..')
        self.refuse_move('not a folder', '/shut/f', '/free/f/')
        self.refuse_move('bad name', '/shut/f', '/shut/' + LONG)
        self.refuse_move('bad text', '/shut/f', '/free/%')

    def test_rights(self):
        self.refuse_move('denied', '/shut/f', '/free/g')
        self.refuse_move('denied', '/free/f', '/shut/g')
        self.refuse_move('denied', '/shut/f', '/shut/f')
        self.refuse_move('denied', '/shut/full', '/shut/full/x')
        self.refuse_move('denied', '/free/empty', '/shut/f')
        self.refuse_move('denied', '/free/full', '/shut/full')
        rename(self.files, '/free/f', '/free/f', 1, USER)

    def test_what_the_deed_needs(self):
        files = self.files
        path = self.deep()
        files.make_folder('/free/two', user=USER, mode=63)
        files.make_folder('/free/two/x', user=USER, mode=63)
        files.create('/free/two/x/f', user=USER)
        files.make_folder('/free/full/x', mode=63)
        self.refuse_move('busy', '/free/two', '/free/two/x')
        self.refuse_move('busy', '/free/two', '/free/two/x/f')
        self.refuse_move('busy', '/free/d', path + '/x')
        files.create(path + '/f')
        self.refuse_move('too deep', '/free/two', path + '/f')
        self.refuse_move('too deep', '/free/empty', path + '/f')
        self.refuse_move('not a folder', '/free/two', '/free/f')
        self.refuse_move('is a folder', '/free/f', '/free/full')
        self.refuse_move('not empty', '/free/two', '/free/full')

    def test_the_same_is_no_fault(self):
        path = self.deep()
        rename(self.files, path, path, 1, USER)
        rename(self.files, '/free/full', '/free/full/', 1, USER)


class RightsTest(OrderCase):
    def test_change_mode(self):
        self.refuse('missing', change_mode, '/shut/x', 64, 1, USER)
        self.refuse('denied', change_mode, '/shut/f', 64, 1, USER)
        self.refuse('denied', change_mode, '/dark/x', 64, 1, USER)
        self.refuse('bad mode', change_mode, '/free/f', 64, 1, USER)

    def test_change_owner(self):
        self.refuse('missing', change_owner, '/shut/x', 6, 1, USER)
        self.refuse('denied', change_owner, '/free/f', 6, 1, USER)

    def test_list_folder(self):
        change_mode(self.files, '/shut', 1)
        self.refused('not a folder', self.files.list_folder, '/shut/f', 1, USER)
        self.refused('denied', self.files.list_folder, '/shut', 1, USER)
        self.refused('missing', self.files.list_folder, '/shut/x', 1, USER)


class TextTest(OrderCase):
    def test_writes(self):
        number = self.files.resolve('/free/f')
        folder = self.files.resolve('/free')
        self.refused('too large', self.files.write, number, -1, 'a' * 201)
        self.refused('too large', self.files.write, folder, 0, '%' * 201)
        self.refused('bad size', self.files.write, folder, -1, '%')
        self.refused('not a file', self.files.write, folder, 0, '%')
        self.refused('bad text', self.files.write, number, 10 ** 6, '%')
        self.refused('bad size', self.files.read, folder, -1, 1)


if __name__ == '__main__':
    unittest.main()
