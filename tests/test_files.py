import unittest

from hoststack.device import Device
from hoststack.errors import CheckError
from hoststack.files import Files, make_files, mount
from hoststack.folder import folder_bytes
from hoststack.inode import FILE, FOLDER, LINK
from hoststack.letters import LETTERS
from hoststack.names import change_mode, drop_folder, tree_of, unlink
from tests.helpers import FilesCase, contents, faults_of, free_inodes, in_operation, new_files, word_of


class NewFilesTest(FilesCase):
    def test_fields(self):
        files = self.files
        self.assertIs(files.blocks.cache, files.cache)
        self.assertIs(files.blocks.layout, files.layout)
        self.assertEqual(files.holding, {})
        self.assertEqual((files.layout.block_size, files.layout.total, files.layout.inodes), (64, 400, 64))
        self.assertEqual(files.cache.capacity, 16)
        self.assertEqual(new_files(capacity=3, inodes=9).cache.capacity, 3)
        self.assertEqual(new_files(capacity=3, inodes=9).layout.inodes, 9)
        other = Files(files.cache, files.layout)
        self.assertEqual((other.cache, other.layout, other.holding), (files.cache, files.layout, {}))

    def test_the_root(self):
        self.assertEqual(self.shown('/'), ('folder', 63, 0, 1, 0, (0,) * 6, 0))
        self.assertEqual(self.files.list_folder('/', user=7), ())
        self.files.create('/mine', user=7)
        self.assertEqual(self.shown('/mine')[:4], ('file', 52, 7, 1))
        self.assertEqual(self.files.resolve('/'), 1)

    def test_bad_layouts(self):
        for size, count, inodes in ((63, 400, 64), (64, 400, 1), (64, 400, 1001), (64, 58, 64), (4097, 400, 64)):
            device = Device(size, count)
            self.assertEqual(word_of(lambda: make_files(device, inodes)), 'bad layout')
            self.assertEqual(device.steps, 0)

    def test_a_device_that_was_used_before(self):
        device = Device(64, 400)
        files = make_files(device, 100)
        for number in range(20):
            files.create(f"/f{number}")
            files.write(files.resolve(f"/f{number}"), 0, 'abc')
        files.sync()
        again = make_files(device, 80)
        self.assertEqual(tree_of(again), ())
        self.assertEqual(faults_of(again), [])
        self.assertEqual((again.layout.inodes, free_inodes(again)), (80, 78))
        self.assertEqual(tree_of(mount(device.restarted(()))), ())

    def test_other_devices_are_not_mounted(self):
        device = Device(64, 400)
        self.assertEqual(word_of(lambda: mount(device)), 'not formatted')
        make_files(device)
        device.blocks[0] = (72, 71) + device.blocks[0][2:]
        self.assertEqual(word_of(lambda: mount(device)), 'not formatted')

    def test_mount(self):
        device = self.files.cache.journal.device
        self.files.make_folder('/a', user=3)
        self.files.create('/a/f', user=3)
        self.files.write(self.files.resolve('/a/f'), 0, 'text\n')
        self.assertEqual(tree_of(mount(device.restarted(()))), ())
        self.files.sync()
        found = mount(device.restarted(()), 5)
        self.assertEqual(tree_of(found), tree_of(self.files))
        self.assertEqual((found.cache.capacity, found.holding, found.layout.inodes), (5, {}, 64))
        self.assertEqual(faults_of(found), [])
        self.assertEqual(mount(device).cache.capacity, 16)


class AddTest(FilesCase):
    def test_files_folders_and_links(self):
        self.assertEqual(self.files.make_folder('/d', user=4), 2)
        self.assertEqual(self.files.create('/d/f', user=4), 3)
        self.assertEqual(self.files.make_link('/d/l', 'f', user=4), 4)
        self.assertEqual(self.files.create('g', 2, 4, 7), 5)
        self.assertEqual(self.files.make_folder('e', 2, 4, 56), 6)
        rows = (('e', 56, 4, ('folder', ())), ('f', 52, 4, ''), ('g', 7, 4, ''), ('l', 61, 4, ('link', 'f')))
        self.assertEqual(tree_of(self.files), (('d', 61, 4, ('folder', rows)),))
        self.assertEqual(self.shown('/d/f')[:5], ('file', 52, 4, 1, 0))
        self.assertEqual(self.shown('/d/l', follow=False)[:5], ('link', 61, 4, 1, 1))
        self.assertEqual(self.shown('/d/e')[:5], ('folder', 56, 4, 1, 0))

    def test_the_first_free_inode(self):
        for name in 'abcd':
            self.files.create(name)
        unlink(self.files, 'b')
        unlink(self.files, 'a')
        self.assertEqual(self.files.create('x'), 2)
        self.assertEqual(self.files.make_folder('y'), 3)
        self.assertEqual(self.files.create('z'), 6)

    def test_add(self):
        self.assertEqual(self.files.add('/l', 1, 5, LINK, 61, '/x y'), 2)
        self.assertEqual(self.files.add('/f', 1, 5, FILE, 52), 3)
        self.assertEqual(self.files.add('/d', 1, 5, FOLDER, 0), 4)
        self.assertEqual([row[:3] for row in tree_of(self.files)], [('d', 0, 5), ('f', 52, 5), ('l', 61, 5)])

    def test_exists(self):
        self.files.make_folder('/d')
        self.files.create('/f')
        self.files.make_link('/l', 'f')
        self.files.make_link('/gone', 'nothing')
        deeds = (self.files.create, self.files.make_folder, lambda path: self.files.make_link(path, 'x'))
        for deed in deeds:
            for path in ('/d', 'f', '/l', '/gone', '/', '.', '..', '', '/d/', '/d/.', '/d/..', 'd/../f', '/./'):
                self.refused('exists', deed, path)

    def test_missing_ways(self):
        self.files.create('/f')
        self.files.make_link('/gone', 'nothing')
        deeds = (self.files.create, self.files.make_folder, lambda path: self.files.make_link(path, 'x'))
        for deed in deeds:
            for path in ('/x/y', 'x/y/z', 'x/../y', '/gone/y'):
                self.refused('missing', deed, path)
            for path in ('/f/y', 'f/y', '/f/..', '/f/../y', '/f/'):
                self.refused('not a folder', deed, path)

    def test_names(self):
        for path in ('a', 'b' * 30, '...', '~ *?'):
            self.files.create(path)
        self.refused('bad name', self.files.create, 'c' * 31)
        self.refused('bad name', self.files.make_folder, '/a b\n')
        self.refused('bad name', self.files.make_link, '\n', 'x')
        self.refused('bad text', self.files.create, 'a%')
        self.refused('bad text', self.files.make_folder, '\t')
        self.assertEqual(self.files.list_folder('/'), ('...', 'a', 'b' * 30, '~ *?'))

    def test_texts_of_links(self):
        self.refused('bad name', self.files.make_link, '/l', '')
        self.refused('bad name', self.files.make_link, '/l', 'a\nb')
        self.refused('bad name', self.files.make_link, '/l', '\n')
        self.refused('bad name', self.files.make_link, '/missing/l', '')
        self.refused('bad text', self.files.make_link, '/l', 'a%')
        self.refused('too large', self.files.make_link, '/l', 'a' * 2433)
        self.files.make_link('/l', 'a/../' * 20)
        self.assertEqual(tree_of(self.files), (('l', 61, 0, ('link', 'a/../' * 20)),))

    def test_modes(self):
        self.refused('bad mode', self.files.create, 'f', 1, 0, 64)
        self.refused('bad mode', self.files.create, 'f', 1, 0, -1)
        self.refused('bad mode', self.files.make_folder, 'f', 1, 0, 64)
        for mode in (0, 63):
            self.files.create(f"f{mode}", mode=mode)
            self.assertEqual(self.shown(f"f{mode}")[1], mode)

    def test_paths_that_end_in_a_slash(self):
        for path in ('f/', 'f/.', '/f//', './f/./'):
            self.refused('not a folder', self.files.create, path)
            self.refused('not a folder', self.files.make_link, path, 'x')
        self.files.make_folder('d/')
        self.files.make_folder('e/.')
        self.assertEqual(self.files.list_folder('/'), ('d', 'e'))

    def test_no_inodes(self):
        files = new_files(64, 400, 4)
        self.files = files
        files.create('a')
        files.make_folder('d')
        self.refused('no inodes', files.create, 'b')
        self.refused('no inodes', files.make_folder, 'd/b')
        self.refused('no inodes', files.make_link, 'd/b', 'x')
        unlink(files, 'a')
        self.assertEqual(files.create('b'), 2)

    def test_no_space(self):
        self.files = new_files(64, 38, 8)
        number = self.files.create('a')
        self.files.write(number, 0, 'x' * 200)
        self.files.write(number, 200, 'x' * 184)
        self.assertEqual(self.files.blocks.free_count(), 0)
        self.refused('no space', self.files.make_link, 'l', 'x')
        self.refused('no space', self.files.write, number, 384, 'x')
        self.files.make_folder('d')
        self.refused('no space', self.files.create, 'd/f')

    def test_the_greatest_folder_and_one_more(self):
        self.files = new_files(128, 400, 200)
        for number in range(31):
            self.files.create(f"{number:030}")
        self.assertEqual(self.files.status('/').size, 31 * 33)
        self.refused('no space', self.files.create, 'last')
        self.refused('no space', self.files.make_folder, 'z')
        self.refused('no space', self.files.make_link, '0', 'x')
        self.refused('no space', self.files.create, '1')
        unlink(self.files, f"{3:030}")
        for number in range(8):
            self.files.create(f"{number}")
        self.assertEqual(self.files.status('/').size, 30 * 33 + 8 * 4)
        self.refused('no space', self.files.make_folder, '8')
        unlink(self.files, '7')
        unlink(self.files, '6')
        self.refused('no space', self.files.create, '12345678')
        self.files.create('1234567')
        self.assertEqual(self.files.status('/').size, 1024)

    def test_put_entries(self):
        self.files.create('/old')
        number = self.files.resolve('/old')
        entries = {f"{n:030}": number for n in range(15)}
        in_operation(self.files, lambda: self.files.put_entries(1, dict(entries, a=number, b=number, x1234=number)))
        self.assertEqual(self.files.status('/').size, 511)
        self.assertEqual(self.files.entries(1), dict(entries, a=number, b=number, x1234=number))
        self.files.cache.begin()
        word = word_of(lambda: self.files.put_entries(1, dict(entries, a=number, b=number, x123456=number)))
        self.assertEqual(word, 'no space')
        self.files.cache.undo()
        in_operation(self.files, lambda: self.files.put_entries(1, {'old': number}))
        self.assertEqual(self.files.status('/').size, 6)

    def test_depth(self):
        path = ''
        for number in range(29):
            path = path + '/d'
            self.files.make_folder(path)
        self.refused('too deep', self.files.make_folder, path + '/d')
        self.refused('too deep', self.files.make_folder, path + '/d/')
        self.files.create(path + '/f')
        self.files.make_link(path + '/l', '/')
        self.assertEqual(self.files.resolve(path + '/..' * 29), 1)


class PathTest(FilesCase):
    def setUp(self):
        FilesCase.setUp(self)
        self.a = self.files.make_folder('/a')
        self.b = self.files.make_folder('/a/b')
        self.f = self.files.create('/a/f')
        self.g = self.files.create('/a/b/g')
        self.to_folder = self.files.make_link('/to folder', 'a/b')
        self.to_file = self.files.make_link('/a/to file', 'b/g')
        self.to_nothing = self.files.make_link('/to nothing', 'a/x')
        self.to_up = self.files.make_link('/a/b/up', '..')

    def found(self, rows, **more):
        for path, number in rows.items():
            if isinstance(number, str):
                self.refused(number, lambda: self.files.resolve(path, **more))
            else:
                self.assertEqual(self.files.resolve(path, **more), number, path)

    def test_paths_from_the_root(self):
        self.found({'/': 1, '': 1, '.': 1, '..': 1, '/..': 1, '/../..': 1, '//': 1, '/a': self.a, 'a': self.a,
                    '/a/': self.a, '/a/.': self.a, './a/./b//g': self.g, '/a/b/..': self.a, '/a/b/../..': 1,
                    '/../a/../a/f': self.f, '/a/b/../f': self.f, '/a/../../a/b': self.b, '/a//': self.a})

    def test_paths_from_a_folder(self):
        self.found({'': self.b, '.': self.b, './': self.b, '..': self.a, '../': self.a, '../..': 1, '../../..': 1,
                    'g': self.g, '../f': self.f, '/a': self.a, '../b/g': self.g, 'up': self.a, 'up/f': self.f,
                    'a': 'missing', '../g': 'missing'}, start=self.b)

    def test_what_is_not_there(self):
        self.found({'/x': 'missing', '/a/x': 'missing', '/x/a': 'missing', '/x/..': 'missing', '/a/f/x': 'not a folder',
                    '/a/f/..': 'not a folder', 'to nothing': 'missing', 'to nothing/x': 'missing', '/x/': 'missing',
                    'a' * 31: 'missing', '%': 'missing', 'x/.': 'missing'})

    def test_paths_that_end_in_a_slash(self):
        self.found({'/a/f/': 'not a folder', '/a/f/.': 'not a folder', '/a/f//': 'not a folder', '/a/b/': self.b,
                    '/a/b/.': self.b, '/to folder/': self.b, '/to folder/.': self.b, '/a/to file/': 'not a folder',
                    '/a/to file/.': 'not a folder', '/to nothing/': 'missing', '/to nothing/.': 'missing',
                    '/x/': 'missing', '/x/.': 'missing', '/a/b/up/': self.a, '/a/../': 1})

    def test_links_at_the_end(self):
        self.found({'/to folder': self.b, '/a/to file': self.g, '/to nothing': 'missing', '/a/b/up': self.a})
        self.found({'/to folder': self.to_folder, '/a/to file': self.to_file, '/to nothing': self.to_nothing,
                    '/to folder/': self.b, '/to folder/.': self.b, '/a/to file/': 'not a folder',
                    '/to nothing/': 'missing'}, follow=False)

    def test_links_within(self):
        self.found({'/to folder/g': self.g, '/to folder/up/f': self.f, '/to folder/..': self.a, '/a/b/up/b/g': self.g,
                    '/a/to file/x': 'not a folder', '/to folder/up/to file': self.g})
        self.found({'/to folder/up/to file': self.to_file, '/to folder/up': self.to_up}, follow=False)

    def test_links_from_the_root(self):
        self.files.make_link('/a/b/root', '/')
        self.files.make_link('/a/b/far', '/a/f')
        self.files.make_link('/a/b/here', '.')
        self.found({'/a/b/root': 1, '/a/b/root/': 1, '/a/b/root/a': self.a, '/a/b/far': self.f, '/a/b/here': self.b,
                    '/a/b/here/here/g': self.g, '/a/b/far/': 'not a folder'})

    def test_links_that_end_in_a_slash(self):
        self.files.make_link('/s', 'a/b/')
        self.files.make_link('/t', 'a/f/')
        self.files.make_link('/u', '/s/.')
        self.found({'/s': self.b, '/s/g': self.g, '/t': 'not a folder', '/u': self.b, '/u/': self.b})

    def test_many_links_one_after_another(self):
        self.files.make_link('/l1', 'a/b')
        for number in range(2, 11):
            self.files.make_link(f"/l{number}", f"l{number - 1}")
        self.found({'/l8': self.b, '/l8/': self.b, '/l8/g': self.g, '/l9': 'too many links',
                    '/l9/': 'too many links', '/l9/g': 'too many links', '/l10': 'too many links',
                    'l1/../../l8/../../l8': self.b})
        self.found({'/l9': self.files.resolve('/l9', follow=False)}, follow=False)
        self.found({'/l9/': 'too many links'}, follow=False)
        self.refused('too many links', self.files.create, '/l9/x')
        self.refused('too many links', self.files.list_folder, '/l9')
        self.assertEqual(self.files.list_folder('/l8'), ('g', 'up'))
        self.files.create('/l8/x')
        self.files.make_folder('/l7/y/')
        drop_folder(self.files, '/l8/y')
        unlink(self.files, '/l8/x')
        self.assertEqual(self.files.list_folder('/l8'), ('g', 'up'))

    def test_a_ring_of_links(self):
        self.files.make_link('/one', 'two')
        self.files.make_link('/two', 'one')
        self.files.make_link('/self', 'self')
        self.found({'/one': 'too many links', '/two/x': 'too many links', '/self': 'too many links'})

    def test_links_followed_before_count(self):
        self.found({'/to folder': self.b}, depth=7)
        self.found({'/to folder': 'too many links'}, depth=8)
        self.found({'/a': self.a}, depth=8)
        self.found({'/a': 'too many links'}, depth=9)

    def test_status(self):
        self.assertEqual(self.shown('/to folder')[0], 'folder')
        self.assertEqual(self.shown('/to folder', follow=False)[0], 'link')
        self.assertEqual(self.shown('f', start=self.a)[0], 'file')
        self.refused('missing', self.files.status, '/to nothing')
        self.refused('missing', self.files.status, 'f')

    def test_list_folder(self):
        self.assertEqual(self.files.list_folder('/'), ('a', 'to folder', 'to nothing'))
        self.assertEqual(self.files.list_folder('a'), ('b', 'f', 'to file'))
        self.assertEqual(self.files.list_folder('', self.b), ('g', 'up'))
        self.assertEqual(self.files.list_folder('/to folder'), ('g', 'up'))
        self.refused('not a folder', self.files.list_folder, '/a/f')
        self.refused('not a folder', self.files.list_folder, '/a/to file')
        self.refused('missing', self.files.list_folder, '/to nothing')

    def test_entries(self):
        self.assertEqual(self.files.entries(self.b), {'g': self.g, 'up': self.to_up})
        for number in (self.f, self.to_folder, 0, 60):
            self.refused('not a folder', self.files.entries, number)
        for number in (-1, 64):
            self.refused('missing', self.files.entries, number)

    def test_a_damaged_folder(self):
        before = self.files.entries(self.b)

        def put(data):
            inode = self.files.blocks.cut_data(self.files.blocks.inode(self.b), len(data))
            self.files.blocks.put_inode(self.b, self.files.blocks.write_data(inode, 0, data))

        in_operation(self.files, lambda: put((0, 1, 9, 1)))
        for deed in (lambda: self.files.entries(self.b), lambda: self.files.resolve('/a/b/g'),
                     lambda: self.files.list_folder('/a/b'), lambda: self.files.create('/a/b/x')):
            with self.assertRaises(CheckError):
                deed()
        in_operation(self.files, lambda: put(folder_bytes(before)))


class RightsTest(FilesCase):
    def setUp(self):
        FilesCase.setUp(self)
        self.files.make_folder('/d', user=5)
        self.files.create('/d/f', user=5)
        self.files.make_folder('/d/e', user=5)

    def allowed(self, user, deed):
        word = word_of(deed)
        self.assertIn(word, (None, 'denied'))
        return word is None

    def test_to_go_through(self):
        for mode in range(64):
            change_mode(self.files, '/d', mode)
            for user, bit in ((5, 8), (6, 1)):
                wanted = mode & bit != 0
                for path in ('/d/f', '/d/e', '/d/..', '/d/../d/f', 'f'):
                    start = 2 if path == 'f' else 1
                    deed = (lambda: self.files.resolve(path, start, user))
                    self.assertEqual(self.allowed(user, deed), wanted, (mode, user, path))
                for path in ('/d', '/d/', '/d/.', '.'):
                    self.assertEqual(self.files.resolve(path, 2 if path == '.' else 1, user), 2)
            self.assertEqual(self.files.resolve('/d/f', 1, 0), 3)

    def test_to_list(self):
        for mode in range(64):
            change_mode(self.files, '/d', mode)
            for user, bit in ((5, 32), (6, 4)):
                deed = (lambda: self.files.list_folder('/d', 1, user))
                self.assertEqual(self.allowed(user, deed), mode & bit != 0, (mode, user))
            self.assertEqual(self.files.list_folder('/d', 1, 0), ('e', 'f'))

    def test_to_change(self):
        for mode in range(64):
            change_mode(self.files, '/d', mode)
            for user, bits in ((5, 24), (6, 3)):
                wanted = mode & bits == bits
                for deed in (lambda: self.files.create('/d/x', 1, user), lambda: self.files.make_folder('x', 2, user),
                             lambda: self.files.make_link('/d/x', 'y', 1, user)):
                    self.assertEqual(self.allowed(user, deed), wanted, (mode, user))
                    if wanted and self.files.status('/d/x', follow=False).kind != FOLDER:
                        unlink(self.files, '/d/x')
                    elif wanted:
                        drop_folder(self.files, '/d/x')

    def test_to_go_through_on_the_way_of_a_link(self):
        self.files.make_link('/l', 'd/f')
        change_mode(self.files, '/d', 54)
        self.refused('denied', self.files.resolve, '/l', 1, 6)
        self.files.resolve('/l', 1, 0)


class TextTest(FilesCase):
    def setUp(self):
        FilesCase.setUp(self)
        self.f = self.files.create('/f')

    def text(self):
        return self.files.read(self.f, 0, 10 ** 6)

    def test_there_and_back(self):
        self.assertEqual(self.files.write(self.f, 0, LETTERS), 95)
        self.assertEqual(self.text(), LETTERS)
        self.assertEqual(self.files.read(self.f, 10, 3), LETTERS[10:13])
        self.assertEqual(self.files.read(self.f, 94, 3), LETTERS[94:])
        self.assertEqual([self.files.read(self.f, offset, 3) for offset in (95, 96, 1000)], ['', '', ''])
        self.assertEqual(self.files.read(self.f, 0, 0), '')
        self.assertEqual(self.files.write(self.f, 3, 'xyz'), 3)
        self.assertEqual(self.text(), LETTERS[:3] + 'xyz' + LETTERS[6:])

    def test_writes_of_200_and_201(self):
        self.assertEqual(self.files.write(self.f, 0, 'a' * 200), 200)
        self.refused('too large', self.files.write, self.f, 0, 'a' * 201)
        self.refused('too large', self.files.write, 50, -1, 'a' * 201)
        self.assertEqual(self.text(), 'a' * 200)

    def test_writing_nothing(self):
        self.files.write(self.f, 0, 'abc')
        before = contents(self.files)
        for offset in (0, 3, 4, 1000, 10 ** 6):
            self.assertEqual(self.files.write(self.f, offset, ''), 0)
        self.assertEqual(contents(self.files), before)

    def test_behind_the_end(self):
        self.assertEqual(self.files.write(self.f, 70, 'a'), 1)
        self.assertEqual(self.text(), '\n' * 70 + 'a')
        self.files.write(self.f, 1000, 'b')
        self.assertEqual(self.text(), '\n' * 70 + 'a' + '\n' * 929 + 'b')
        self.assertEqual(self.files.status('/f').size, 1001)

    def test_the_greatest_file_and_one_more(self):
        self.files.write(self.f, 2431, 'z')
        self.refused('too large', self.files.write, self.f, 2432, 'z')
        self.refused('too large', self.files.write, self.f, 2400, 'z' * 33)
        self.assertEqual(self.files.write(self.f, 2400, 'z' * 32), 32)
        for offset in range(0, 2400, 200):
            self.files.write(self.f, offset, 'y' * 200)
        self.assertEqual(self.text(), 'y' * 2400 + 'z' * 32)

    def test_wrong_calls(self):
        d = self.files.make_folder('/d')
        link = self.files.make_link('/l', 'f')
        for number in (1, d, link, 0, 50):
            self.refused('not a file', self.files.read, number, 0, 1)
            self.refused('not a file', self.files.write, number, 0, 'a')
            self.refused('not a file', self.files.write, number, 0, '')
        for number in (-1, 64, 1000):
            self.refused('missing', self.files.read, number, 0, 1)
            self.refused('missing', self.files.write, number, 0, 'a')
        self.refused('bad size', self.files.read, self.f, -1, 1)
        self.refused('bad size', self.files.read, self.f, 0, -1)
        self.refused('bad size', self.files.write, self.f, -1, 'a')
        self.refused('bad size', self.files.write, self.f, -1, '')
        self.refused('bad size', self.files.write, 1, -1, 'a')
        for text in ('%', 'a\tb', '\xe9'):
            self.refused('bad text', self.files.write, self.f, 0, text)

    def test_no_space_leaves_nothing_written(self):
        self.files = new_files(64, 62, 64)
        self.f = self.files.create('/f')
        free = self.files.blocks.free_count()
        self.files.write(self.f, 0, 'x' * 64 * (free - 1))
        self.refused('no space', self.files.write, self.f, 64 * (free - 1), 'y' * 65)
        self.refused('no space', self.files.write, self.f, 10, 'y' * (64 * free - 9))
        self.files.write(self.f, 64 * (free - 1), 'y' * 64)
        self.refused('no space', self.files.write, self.f, 64 * free, 'y')
        self.assertEqual(self.files.blocks.free_count(), 0)


class OpenTest(FilesCase):
    def setUp(self):
        FilesCase.setUp(self)
        self.free = self.files.blocks.free_count()
        self.f = self.files.create('/f')
        self.files.write(self.f, 0, 'abc' * 50)

    def test_a_file_that_is_dropped_while_it_is_open(self):
        self.files.hold(self.f)
        self.files.hold(self.f)
        self.assertEqual(self.files.holding, {self.f: 2})
        unlink(self.files, '/f')
        self.refused('missing', self.files.resolve, '/f')
        self.assertEqual(self.files.read(self.f, 0, 6), 'abcabc')
        self.files.write(self.f, 1, 'x')
        self.assertEqual(self.files.read(self.f, 0, 6), 'axcabc')
        self.assertNotEqual(self.files.create('/f'), self.f)
        self.files.let_go(self.f)
        self.assertEqual(self.files.holding, {self.f: 1})
        self.assertEqual(self.files.read(self.f, 0, 6), 'axcabc')
        unlink(self.files, '/f')
        self.files.let_go(self.f)
        self.assertEqual(self.files.holding, {})
        self.assertEqual((self.files.blocks.free_count(), free_inodes(self.files)), (self.free, 62))
        self.refused('not a file', self.files.read, self.f, 0, 6)

    def test_a_file_with_names_stays_when_it_is_closed(self):
        self.files.hold(self.f)
        self.files.let_go(self.f)
        self.assertEqual((self.files.holding, self.files.resolve('/f')), ({}, self.f))

    def test_it_is_freed_at_the_next_mount(self):
        self.files.holding[self.f] = 1
        unlink(self.files, '/f')
        self.files.create('/g')
        self.files.sync()
        device = self.files.cache.journal.device
        self.assertEqual(self.files.read(self.f, 0, 3), 'abc')
        found = mount(device.restarted(()))
        self.assertEqual(found.holding, {})
        self.assertEqual(found.blocks.inode(self.f).shown()[0], 'free')
        self.assertEqual(found.blocks.free_count(), self.free - 1)
        self.assertEqual(faults_of(found), [])
        self.assertEqual(tree_of(found), (('g', 52, 0, ''),))

    def test_many_are_freed_at_the_next_mount(self):
        for name in 'abcdegh':
            number = self.files.create(name)
            self.files.write(number, 0, 'x' * 200)
            self.files.hold(number)
            unlink(self.files, name)
        unlink(self.files, 'f')
        self.files.sync()
        found = mount(self.files.cache.journal.device.restarted(()))
        self.assertEqual((found.blocks.free_count(), free_inodes(found)), (self.free, 62))
        self.assertEqual(faults_of(found), [])
        self.assertEqual(tree_of(found), ())

    def test_a_mount_keeps_what_a_name_stands_for(self):
        inode = self.files.blocks.inode(self.f)
        in_operation(self.files, lambda: self.files.blocks.put_inode(self.f, inode.with_links(0)))
        self.files.sync()
        found = mount(self.files.cache.journal.device.restarted(()))
        self.assertEqual(found.read(self.f, 0, 3), 'abc')
        in_operation(self.files, lambda: self.files.blocks.put_inode(self.f, inode))


if __name__ == '__main__':
    unittest.main()
