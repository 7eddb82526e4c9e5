import unittest

from hoststack.errors import CheckError
from hoststack.names import change_mode, change_owner, depth_of, drop_folder, link, rename, tree_of, unlink
from tests.helpers import FilesCase, free_inodes, in_operation, new_files


class NamesCase(FilesCase):
    def setUp(self):
        FilesCase.setUp(self)
        self.free = self.files.blocks.free_count()
        self.a = self.files.make_folder('/a')
        self.b = self.files.make_folder('/a/b')
        self.e = self.files.make_folder('/e')
        self.f = self.files.create('/f')
        self.g = self.files.create('/a/g')
        self.files.write(self.f, 0, 'f text')
        self.to_folder = self.files.make_link('/to folder', 'a/b')
        self.to_file = self.files.make_link('/to file', 'f')
        self.to_nothing = self.files.make_link('/to nothing', 'x')

    def refuse(self, word, deed, *more):
        self.refused(word, deed, self.files, *more)

    def there(self, path, start=1):
        return self.files.resolve(path, start, 0, False)


class UnlinkTest(NamesCase):
    def test_files_and_links(self):
        for path in ('/f', 'to file', '/to folder', '/a/../to nothing'):
            unlink(self.files, path)
            self.refuse('missing', unlink, path)
        unlink(self.files, 'g', self.a)
        self.assertEqual(self.files.list_folder('/'), ('a', 'e'))
        self.assertEqual(self.files.list_folder('/a'), ('b',))
        self.assertEqual(free_inodes(self.files), 62 - 3)

    def test_what_is_dropped_is_freed(self):
        for path in ('/a/g', '/f', '/to folder', '/to file', '/to nothing'):
            unlink(self.files, path)
        for path in ('/a/b', '/a', '/e'):
            drop_folder(self.files, path)
        self.assertEqual((self.files.blocks.free_count(), free_inodes(self.files)), (self.free, 62))
        self.assertEqual(self.files.status('/').shown()[3:], (1, 0, (0,) * 6, 0))

    def test_one_of_several_names(self):
        link(self.files, '/f', '/a/h')
        self.assertEqual(self.files.status('/f').links, 2)
        unlink(self.files, '/f')
        self.assertEqual(self.files.status('/a/h').links, 1)
        self.assertEqual(self.files.read(self.there('/a/h'), 0, 100), 'f text')
        unlink(self.files, '/a/h')
        self.refused('not a file', self.files.read, self.f, 0, 1)

    def test_refused(self):
        self.refuse('missing', unlink, '/x')
        self.refuse('missing', unlink, '/x/y')
        self.refuse('missing', unlink, '/to nothing/x')
        self.refuse('missing', unlink, '/x/')
        self.refuse('missing', unlink, '/to nothing/')
        self.refuse('not a folder', unlink, '/f/x')
        self.refuse('not a folder', unlink, '/f/')
        self.refuse('not a folder', unlink, '/f/.')
        self.refuse('not a folder', unlink, '/to file/')
        self.refuse('is a folder', unlink, '/a')
        self.refuse('is a folder', unlink, '/e/')
        self.refuse('is a folder', unlink, '/to folder/')
        for path in ('/', '.', '..', '', '/a/..', '/a/b/../..', '/.', '//'):
            self.refuse('busy', unlink, path)

    def test_rights(self):
        change_mode(self.files, '/a', 61)
        self.refuse('denied', unlink, '/a/g', 1, 5)
        change_mode(self.files, '/a', 62)
        self.refuse('denied', unlink, '/a/g', 1, 5)
        change_mode(self.files, '/a', 3)
        unlink(self.files, '/a/g', 1, 5)
        self.assertEqual(self.files.list_folder('/a'), ('b',))


class DropFolderTest(NamesCase):
    def test_empty_folders(self):
        drop_folder(self.files, '/e/')
        drop_folder(self.files, 'b/.', self.a)
        unlink(self.files, '/a/g')
        drop_folder(self.files, '/a')
        self.assertEqual(self.files.list_folder('/'), ('f', 'to file', 'to folder', 'to nothing'))

    def test_a_link_with_a_slash_is_followed(self):
        drop_folder(self.files, '/to folder/')
        self.assertEqual(self.files.list_folder('/a'), ('g',))
        self.assertEqual(self.there('/to folder'), self.to_folder)
        self.refuse('missing', drop_folder, '/to folder/')

    def test_refused(self):
        self.refuse('missing', drop_folder, '/x')
        self.refuse('missing', drop_folder, '/x/')
        self.refuse('not a folder', drop_folder, '/f')
        self.refuse('not a folder', drop_folder, '/f/')
        self.refuse('not a folder', drop_folder, '/f/x')
        self.refuse('not a folder', drop_folder, '/to folder')
        self.refuse('not a folder', drop_folder, '/to file/')
        self.refuse('not empty', drop_folder, '/a')
        for path in ('/', '.', '..', '', '/a/b/..', '/e/..', '/e/../'):
            self.refuse('busy', drop_folder, path)
        self.files.make_link('/up', '..')
        self.refuse('busy', drop_folder, '/up/')

    def test_folders_in_use(self):
        self.files.hold(self.e)
        self.refuse('busy', drop_folder, '/e')
        self.refuse('busy', rename, '/a/b', '/e')
        self.refuse('busy', rename, '/e', '/new')
        self.files.let_go(self.e)
        drop_folder(self.files, '/e')

    def test_rights(self):
        self.files.make_folder('/e/x', 1, 0, 63)
        self.refuse('denied', drop_folder, '/e/x', 1, 5)
        change_mode(self.files, '/e', 59)
        drop_folder(self.files, '/e/x', 1, 5)


class LinkTest(NamesCase):
    def test_names(self):
        link(self.files, '/f', '/a/b/f2')
        link(self.files, '../f', 'b/../f3/', self.a)
        self.assertEqual(self.there('/a/b/f2'), self.f)
        self.assertEqual(self.there('/a/f3'), self.f)
        self.assertEqual(self.files.status('/f').links, 3)
        self.files.write(self.f, 0, 'F')
        self.assertEqual(dict((row[0], row[3]) for row in tree_of(self.files))['f'], 'F text')

    def test_links_are_not_followed(self):
        link(self.files, '/to nothing', '/n')
        link(self.files, '/to folder', '/e/n')
        self.assertEqual(self.there('/n'), self.to_nothing)
        self.assertEqual(self.there('/e/n'), self.to_folder)
        self.assertEqual(self.files.status('/n', follow=False).links, 2)

    def test_refused(self):
        self.refuse('missing', link, '/x', '/y')
        self.refuse('missing', link, '/x/y', '/y')
        self.refuse('missing', link, '/to nothing/', '/y')
        self.refuse('missing', link, '/f', '/x/y')
        self.refuse('not a folder', link, '/f/', '/y')
        self.refuse('not a folder', link, '/f', '/f/y')
        for path in ('/', '.', '..', '/a', '/a/', '/to folder/', '/a/b/..', ''):
            self.refuse('is a folder', link, path, '/y')
        for path in ('/f', '/a', '/a/', '/', '.', '/a/..', '/to nothing', '/to folder', '/to folder/'):
            self.refuse('exists', link, '/f', path)
        self.refuse('not a folder', link, '/f', '/to file/')
        self.refuse('bad name', link, '/f', 'y' * 31)
        self.refuse('bad name', link, '/f', 'y\n')
        self.refuse('bad text', link, '/f', 'y%')

    def test_rights(self):
        self.refuse('denied', link, '/f', '/e/x', 1, 5)
        change_mode(self.files, '/e', 3)
        change_mode(self.files, '/f', 0)
        link(self.files, '/f', '/e/x', 1, 5)
        self.assertEqual(self.there('/e/x'), self.f)

    def test_too_many_names(self):
        inode = self.files.blocks.inode(self.f)
        in_operation(self.files, lambda: self.files.blocks.put_inode(self.f, inode.with_links(65534)))
        link(self.files, '/f', '/f2')
        self.assertEqual(self.files.status('/f').links, 65535)
        self.refuse('too large', link, '/f', '/f3')
        in_operation(self.files, lambda: self.files.blocks.put_inode(self.f, inode.with_links(2)))


class RenameTest(NamesCase):
    def test_new_names(self):
        rename(self.files, '/f', '/f2')
        rename(self.files, '/a/g', '/e/g/')
        rename(self.files, '/e/', '/a/b/e2')
        rename(self.files, '/to nothing', 'n', 1)
        self.assertEqual(self.files.list_folder('/'), ('a', 'f2', 'n', 'to file', 'to folder'))
        self.assertEqual(self.there('/a/b/e2/g'), self.g)
        self.assertEqual(self.there('/n'), self.to_nothing)
        self.assertEqual(self.files.resolve('/a/b/e2/..'), self.b)
        self.assertEqual(self.files.read(self.there('f2'), 0, 99), 'f text')

    def test_from_a_folder(self):
        rename(self.files, 'g', '../g', self.a)
        self.assertEqual((self.there('/g'), self.files.list_folder('/a')), (self.g, ('b',)))

    def test_a_file_is_replaced(self):
        inodes = free_inodes(self.files)
        rename(self.files, '/a/g', '/f')
        self.assertEqual((self.there('/f'), self.files.read(self.g, 0, 9)), (self.g, ''))
        self.assertEqual(free_inodes(self.files), inodes + 1)
        rename(self.files, '/f', '/to folder')
        self.assertEqual(self.there('/to folder'), self.g)
        rename(self.files, '/to file', '/to nothing')
        self.assertEqual(self.there('/to nothing'), self.to_file)
        self.assertEqual(free_inodes(self.files), inodes + 3)
        self.assertEqual(self.files.list_folder('/'), ('a', 'e', 'to folder', 'to nothing'))

    def test_one_of_several_names_is_replaced(self):
        link(self.files, '/f', '/f2')
        rename(self.files, '/a/g', '/f2')
        self.assertEqual((self.files.status('/f').links, self.there('/f2')), (1, self.g))

    def test_an_open_file_is_replaced(self):
        self.files.hold(self.f)
        rename(self.files, '/a/g', '/f')
        self.assertEqual(self.files.read(self.f, 0, 9), 'f text')
        self.files.let_go(self.f)
        self.refused('not a file', self.files.read, self.f, 0, 9)

    def test_an_empty_folder_is_replaced(self):
        rename(self.files, '/a', '/e')
        self.assertEqual((self.there('/e'), self.there('/e/b')), (self.a, self.b))
        self.assertEqual(self.files.list_folder('/'), ('e', 'f', 'to file', 'to folder', 'to nothing'))

    def test_both_names_stand_for_the_same(self):
        link(self.files, '/f', '/a/f2')
        before = tree_of(self.files)
        for old, new in (('/f', '/f'), ('/f', '/a/f2'), ('/a', '/a'), ('/a/', '/e/../a/.'), ('/a/b', '/to folder/')):
            rename(self.files, old, new)
            self.assertEqual(tree_of(self.files), before)
        self.assertEqual(self.files.status('/f').links, 2)

    def test_links_with_a_slash_are_followed(self):
        rename(self.files, '/to folder/', '/moved')
        self.assertEqual((self.there('/moved'), self.there('/to folder')), (self.b, self.to_folder))
        self.assertEqual(self.files.list_folder('/a'), ('g',))
        self.files.make_link('/to e', 'e')
        rename(self.files, '/moved', '/to e/')
        self.assertEqual(self.there('/e'), self.b)

    def test_refused(self):
        self.refuse('missing', rename, '/x', '/y')
        self.refuse('missing', rename, '/f', '/x/y')
        self.refuse('missing', rename, '/to nothing/', '/y')
        self.refuse('not a folder', rename, '/f/', '/y')
        self.refuse('not a folder', rename, '/f', '/f/y')
        self.refuse('not a folder', rename, '/f', '/to file/')
        for path in ('/', '.', '..', '/a/..', '', '/a/b/../'):
            self.refuse('busy', rename, path, '/y')
            self.refuse('busy', rename, '/f', path)
            self.refuse('busy', rename, '/e', path)
        self.refuse('bad name', rename, '/f', 'y' * 31)
        self.refuse('bad name', rename, '/f', 'y\n')
        self.refuse('bad text', rename, '/f', 'y%')
        self.refuse('is a folder', rename, '/f', '/e')
        self.refuse('is a folder', rename, '/to folder', '/a/')
        self.refuse('not a folder', rename, '/e', '/f')
        self.refuse('not a folder', rename, '/e', '/to folder')
        self.refuse('not empty', rename, '/e', '/a')
        self.refuse('not empty', rename, '/a/b', '/a')

    def test_below_itself(self):
        self.refuse('busy', rename, '/a', '/a/x')
        self.refuse('busy', rename, '/a', '/a/b/x')
        self.refuse('busy', rename, '/a', '/to folder/x')
        self.refuse('busy', rename, '/a', '/a/b')
        self.refuse('busy', rename, '/a', '/a/g')
        rename(self.files, '/a/b', '/b')
        self.assertEqual(self.there('/b'), self.b)

    def test_depth(self):
        path = '/e'
        for number in range(27):
            path = path + '/d'
            self.files.make_folder(path)
        rename(self.files, '/a/b', path + '/b')
        self.refuse('too deep', rename, '/a', path + '/b/a')
        self.files.make_folder('/a/b')
        self.refuse('too deep', rename, '/a', path + '/a')
        rename(self.files, '/a/b', '/b')
        rename(self.files, '/a', path + '/a')
        rename(self.files, '/f', path + '/a/f')
        self.assertEqual(depth_of(self.files), 30)

    def test_rights(self):
        self.files.make_folder('/mine', 1, 5)
        mine = self.files.create('/mine/f', 1, 5)
        self.refuse('denied', rename, '/mine/f', '/e/f', 1, 5)
        self.refuse('denied', rename, '/a/g', '/mine/g', 1, 5)
        change_mode(self.files, '/e', 3)
        rename(self.files, '/mine/f', '/e/f', 1, 5)
        self.assertEqual(self.there('/e/f'), mine)
        change_mode(self.files, '/e', 2)
        self.refuse('denied', rename, '/e/f', '/mine/f', 1, 5)

    def test_a_full_folder(self):
        self.files = new_files(128, 400, 64)
        for number in range(30):
            self.files.create(f"{number:030}")
        self.files.make_folder('/d')
        number = self.files.create('/d/f')
        self.refuse('no space', rename, '/d/f', '/' + 'x' * 28)
        self.refuse('no space', link, '/d/f', '/' + 'x' * 28)
        rename(self.files, '/d/f', '/' + 'x' * 27)
        self.assertEqual((self.files.status('/').size, self.there('x' * 27)), (1024, number))
        self.refuse('no space', rename, '/d', '/dd')

    def test_no_space(self):
        files = new_files(64, 61, 64)
        self.assertEqual(files.blocks.free_count(), 2)
        files.make_folder('/d')
        files.create('/d/f')
        files.make_folder('/e')
        self.files = files
        self.refuse('no space', link, '/d/f', '/e/f')
        rename(files, '/d/f', '/e/f')
        self.assertEqual(files.list_folder('/e'), ('f',))


class RightsTest(NamesCase):
    def test_change_mode(self):
        change_owner(self.files, '/f', 5)
        change_mode(self.files, '/f', 7, 1, 5)
        change_mode(self.files, '/a', 0)
        change_mode(self.files, 'a', 63, 1, 0)
        self.assertEqual((self.files.status('/f').mode, self.files.status('/a').mode), (7, 63))
        self.refuse('denied', change_mode, '/f', 6, 1, 6)
        self.refuse('denied', change_mode, '/a', 6, 1, 5)
        self.refuse('bad mode', change_mode, '/f', 64, 1, 5)
        self.refuse('bad mode', change_mode, '/f', -1)
        self.refuse('missing', change_mode, '/x', 6)
        self.refuse('not a folder', change_mode, '/f/', 6)

    def test_change_owner(self):
        change_owner(self.files, '/f', 255)
        self.assertEqual(self.files.status('/f').owner, 255)
        change_owner(self.files, '/a/..', 3)
        self.assertEqual(self.files.status('/').owner, 3)
        self.refuse('denied', change_owner, '/f', 5, 1, 255)
        self.refuse('denied', change_owner, '/a', 5, 1, 5)
        self.refuse('missing', change_owner, '/x', 5)

    def test_links_are_followed(self):
        change_mode(self.files, '/to file', 1)
        change_owner(self.files, '/to folder', 9)
        self.assertEqual(self.files.status('/f').mode, 1)
        self.assertEqual(self.files.status('/a/b').owner, 9)
        self.assertEqual(self.files.status('/to file', follow=False).mode, 61)
        self.refuse('missing', change_mode, '/to nothing', 1)

    def test_what_stays(self):
        before = self.files.status('/f').shown()
        change_mode(self.files, '/f', 9)
        change_owner(self.files, '/f', 8)
        self.assertEqual(self.files.status('/f').shown(), ('file', 9, 8) + before[3:])


class TreeTest(NamesCase):
    def test_tree(self):
        rows = (('a', 61, 0, ('folder', (('b', 61, 0, ('folder', ())), ('g', 52, 0, '')))),
                ('e', 61, 0, ('folder', ())), ('f', 52, 0, 'f text'), ('to file', 61, 0, ('link', 'f')),
                ('to folder', 61, 0, ('link', 'a/b')), ('to nothing', 61, 0, ('link', 'x')))
        self.assertEqual(tree_of(self.files), rows)
        self.assertEqual(tree_of(self.files, self.a), rows[0][3][1])
        self.assertEqual(tree_of(self.files, self.e), ())
        self.refuse('not a folder', tree_of, self.f)
        self.refuse('missing', tree_of, 64)

    def test_long_texts(self):
        for offset in range(0, 2400, 200):
            self.files.write(self.g, offset, f"{offset:04}" * 50)
        text = ''.join(f"{offset:04}" * 50 for offset in range(0, 2400, 200))
        self.assertEqual(tree_of(self.files, self.a)[1], ('g', 52, 0, text))

    def test_depth_of(self):
        self.assertEqual([depth_of(self.files, number) for number in (1, self.a, self.b, self.e)], [3, 2, 1, 1])
        self.assertEqual(depth_of(self.files), 3)
        self.refuse('not a folder', depth_of, self.f)

    def test_a_damaged_folder(self):
        self.files.cache.begin()
        inode = self.files.blocks.write_data(self.files.blocks.inode(self.b), 0, (0, 1, 9))
        self.files.blocks.put_inode(self.b, inode)
        for deed in (tree_of, depth_of):
            with self.assertRaises(CheckError):
                deed(self.files)
        self.files.cache.undo()
        self.assertEqual(depth_of(self.files), 3)


if __name__ == '__main__':
    unittest.main()
