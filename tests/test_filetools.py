"""File tools: what they do, write and complain of, their codes, and the table of all tools."""

import unittest

from hoststack.filetools import is_tool, make_tool
from hoststack.inode import FILE, FOLDER, LINK
from hoststack.kernel import Kernel
from hoststack.names import change_mode, link, tree_of
from hoststack.opened import Nothing, Table
from tests.helpers import ToolCase, faults_of

FILE_TOOLS = ('echo', 'true', 'false', 'seq', 'test', 'sync', 'ls', 'find', 'mkdir', 'rmdir', 'rm', 'touch', 'mv', 'cp',
              'ln', 'chmod')
OTHERS = ('cat', 'head', 'tail', 'wc', 'grep', 'sort', 'uniq', 'rev', 'cut', 'replace', 'sum', 'tr', 'tee', 'paste',
          'cmp', 'diff', 'pack', 'unpack')


class FileToolCase(ToolCase):
    def tearDown(self):
        self.assertEqual(faults_of(self.files), [])

    def does(self, words, **more):
        """Check that a tool writes nothing and ends with code 0."""
        self.gives(words, '', **more)

    def fails(self, words, *faults, **more):
        """Check that a tool writes nothing but its complaints."""
        name = (words.split() if isinstance(words, str) else words)[0]
        self.gives(words, '', told=''.join(f'{name}: {fault}\n' for fault in faults), code=1, **more)

    def kind(self, path, **more):
        return self.files.status(path, **more).kind

    def names(self, path='/'):
        return self.files.list_folder(path)


class TableTest(FileToolCase):
    def test_tools_and_what_is_none(self):
        for name in FILE_TOOLS + OTHERS:
            self.assertIs(is_tool(name), True, name)
        for name in ('', 'cd', 'exit', 'read', 'wait', ':', 'Echo', 'echo ', '/echo', 'shell', '[', 'ls -l', 'unpacks'):
            self.assertIs(is_tool(name), False, name)

    def test_words(self):
        for words in (['echo', 'a'], ['mv'], ['cat', '-x'], ['pack'], ['ls', '-l', '/'], ['nothing', 'a']):
            self.assertEqual(make_tool(words).words, words)

    def test_words_that_fit_no_tool(self):
        self.refuses('nothing', 'nothing a b', ['', 'a'], 'cd /')

    def test_every_tool_takes_its_words(self):
        self.refuses('head -x', 'cut', 'replace a', 'tr a', 'tee', 'paste a', 'cmp a', 'diff a', 'pack', 'unpack',
                     'grep', 'seq', 'find', 'mkdir', 'rmdir', 'rm', 'touch', 'mv', 'cp', 'ln', 'chmod')


class PlainTest(FileToolCase):
    def test_echo(self):
        self.gives('echo', '\n')
        self.gives('echo a', 'a\n')
        self.gives('echo a b  c', 'a b c\n')
        self.gives(['echo', 'a b', '', ' c\n', '-n'], 'a b   c\n -n\n')

    def test_long_texts_are_written_by_parts(self):
        for words in (['echo', 'x' * 500], ['seq', '1', '150'], ['seq', '100000000', '100000050']):
            self.assertEqual(self.most_at_once(words), 200, words)

    def test_true_and_false(self):
        self.gives('true', '')
        self.gives('false', '', code=1)

    def test_seq(self):
        self.gives('seq 1 3', '1\n2\n3\n')
        self.gives('seq 5 5', '5\n')
        self.gives('seq 5 4', '')
        self.gives('seq 3 1', '')
        self.gives('seq -2 1', '-2\n-1\n0\n1\n')
        self.gives('seq 08 010', '8\n9\n10\n')
        for last in range(60, 80):
            self.gives(f'seq 1 {last}', ''.join(f'{number}\n' for number in range(1, last + 1)))
        self.gives('seq 1 200', ''.join(f'{number}\n' for number in range(1, 201)))
        self.refuses('seq', 'seq 1', 'seq 1 2 3', 'seq a 2', 'seq 1 b', 'seq 1 1234567890', 'seq - 1', ['seq', '', '1'])

    def test_sync(self):
        device = self.files.cache.journal.device
        self.files.make_folder('/d')
        before = dict(device.blocks)
        self.does('sync')
        self.assertNotEqual(device.blocks, before)
        self.assertEqual(self.files.cache.dirty, {})
        self.assertEqual(device.waiting, [])


class TestTest(FileToolCase):
    def setUp(self):
        super().setUp()
        self.put('/f', 'x')
        self.files.make_folder('/d')
        self.files.make_link('/to-d', 'd')
        self.files.make_link('/to-f', '/f')
        self.files.make_link('/to-none', 'none')

    def codes(self, code, *rows):
        for words in rows:
            words = words.split() if isinstance(words, str) else words
            self.assertEqual(self.run_tool(['test'] + words), ('', '', code), words)

    def test_texts(self):
        self.codes(0, 'a', '-e', '=', ['a b'], '-lt', [' '])
        self.codes(1, [], [''])

    def test_paths(self):
        self.codes(0, '-e /f', '-e /d', '-f /f', '-d /d', '-d /', '-e .', '-e to-d', '-d to-d', '-f to-f', '-d d/')
        self.codes(1, '-e /none', '-f /d', '-d /f', '-f /none', '-d none', '-e to-none', '-f to-d', '-e /f/x', '-e f/')

    def test_a_path_that_is_denied(self):
        change_mode(self.files, '/d', 48)
        self.put('/d/g', '')
        for code, user in ((0, 0), (1, 5)):
            self.assertEqual(self.run_tool(['test', '-e', '/d/g'], user=user), ('', '', code))

    def test_pairs(self):
        self.codes(0, 'a = a', 'a != b', ['', '=', ''], '1 -lt 2', '1 -le 2', '2 -le 2', '2 -eq 2', '-3 -lt -2',
                   '07 -eq 7', '10 -le 10', '9 -lt 10', '-0 -eq 0', '-e = -e')
        self.codes(1, 'a = b', 'a != a', '2 -lt 2', '3 -lt 2', '3 -le 2', '1 -eq 2', '2 -eq 1', '07 = 7', '-2 -lt -3',
                   ['a', '=', 'a '])

    def test_numbers_that_are_none(self):
        self.codes(2, 'a -lt 1', '1 -lt a', '1 -le x', 'x -eq x', ['', '-eq', ''], '1 -lt 1234567890', '1.0 -eq 1',
                   '+1 -eq 1', '- -lt 1')

    def test_not(self):
        self.codes(1, '! a', '! -e /f', '! a = a', '! 1 -lt 2', '! !', ['!', '!', ''])
        self.codes(0, ['!', ''], '!', '! ! !', '! -e none', '! a = b', '! ! a', '! ! -e f', '! ! ! a = b')
        self.codes(2, '! a b', '! x -lt 1', '! ! a b c d')

    def test_others(self):
        self.codes(2, '-x /f', 'a b', 'a == b', '1 -gt 2', '1 -ge 2', '1 -ne 2', '1 < 2', 'a = b c', '-e a b c', 'e f',
                   '-e f = x', 'a = a !')


class ListTest(FileToolCase):
    def setUp(self):
        super().setUp()
        self.files.make_folder('/d')
        change_mode(self.files, '/d', 63)
        self.put('/d/b', 'text')
        self.put('/d/.a', '')
        self.files.make_folder('/d/c', mode=63)
        self.files.make_link('/d/l', '../d/b', user=3)
        change_mode(self.files, '/d', 61)
        link(self.files, '/d/b', '/other')

    def test_folders(self):
        self.gives('ls', 'd\nother\n')
        self.gives('ls /', 'd\nother\n')
        self.gives('ls /d', '.a\nb\nc\nl\n')
        self.gives('ls d/', '.a\nb\nc\nl\n')
        self.gives('ls d/c', '')
        self.gives('ls', '.a\nb\nc\nl\n', folder=self.files.resolve('/d'))
        self.gives('ls ..', 'd\nother\n', folder=self.files.resolve('/d'))

    def test_long_rows(self):
        rows = '-rw-r-- 1 0 0 .a\n-rw-r-- 2 0 4 b\ndrwxrwx 1 0 0 c\nlrwxr-x 1 3 6 l\n'
        self.gives('ls -l /d', rows)
        self.gives('ls -l', rows, folder=self.files.resolve('/d'))
        size = self.files.status('/d').size
        self.gives('ls -l /', f'drwxr-x 1 0 {size} d\n-rw-r-- 2 0 4 other\n')
        self.gives('ls -l /d/c', '')

    def test_files_and_links(self):
        self.gives('ls /d/b', '/d/b\n')
        self.gives('ls d/../d/b', 'd/../d/b\n')
        self.gives('ls -l d/b', '-rw-r-- 2 0 4 d/b\n')
        self.gives('ls d/l', 'd/l\n')
        self.gives('ls -l d/l', '-rw-r-- 2 0 4 d/l\n')
        self.files.make_link('/to-d', 'd')
        self.gives('ls to-d', '.a\nb\nc\nl\n')
        self.gives('ls -l to-d/c to-d/b', '-rw-r-- 2 0 4 to-d/b\n')

    def test_several_paths(self):
        self.gives('ls d/b / d/c other', 'd/b\nd\nother\nother\n')

    def test_it_ends_at_once(self):
        self.fails('ls /none', 'missing')
        self.gives('ls other none /', 'other\n', told='ls: missing\n', code=1)
        self.fails('ls other/', 'not a folder')
        self.fails('ls -x', 'missing')
        self.files.make_link('/to-none', 'none')
        self.fails('ls to-none', 'missing')

    def test_rights(self):
        change_mode(self.files, '/d', 63 - 4)
        self.fails('ls /d', 'denied', user=3)
        self.gives('ls /d/b', '/d/b\n', user=3)
        change_mode(self.files, '/d', 63 - 1)
        self.gives('ls /d', '.a\nb\nc\nl\n', user=3)
        self.fails('ls /d/b', 'denied', user=3)
        self.gives('ls /d', '.a\nb\nc\nl\n')


class FindTest(FileToolCase):
    def setUp(self):
        super().setUp()
        for path in ('/d', '/d/b', '/d/b/a', '/d/c', '/e'):
            self.files.make_folder(path)
        for path in ('/d/b/x', '/d/bb', '/d/z', '/f'):
            self.put(path, '')
        self.files.make_link('/d/l', '/e')

    def test_folders(self):
        within = ['', '/b', '/b/a', '/b/x', '/bb', '/c', '/l', '/z']
        for path in ('/d', 'd', './d', 'd/../d'):
            self.gives('find ' + path, ''.join(path + name + '\n' for name in within))
        self.gives('find /d/', '/d/\n' + ''.join('/d' + name + '\n' for name in within[1:]))
        self.gives('find /', '/\n' + ''.join('/d' + name + '\n' for name in within) + '/e\n/f\n')
        self.gives('find .', '.\n' + ''.join('./d' + name + '\n' for name in within) + './e\n./f\n')
        self.gives('find ..', '..\n../a\n../x\n', folder=self.files.resolve('/d/b/a'))
        self.gives('find /e', '/e\n')

    def test_files_and_links(self):
        self.gives('find /d/z', '/d/z\n')
        self.gives('find /d/b/../z', '/d/b/../z\n')
        self.put('/e/in', '')
        self.gives('find /d/l', '/d/l\n/d/l/in\n')
        self.gives('find /d/l/', '/d/l/\n/d/l/in\n')

    def test_it_ends_at_once(self):
        self.fails('find /none', 'missing')
        self.fails('find /f/', 'not a folder')
        change_mode(self.files, '/d/b', 48)
        found = ''.join(self.run_tool('find /d', user=2)[:2])
        self.assertTrue(found.endswith('find: denied\n'), found)
        self.assertNotIn('/d/b/a', found)
        self.assertNotIn('/d/z', found)
        self.refuses('find', 'find a b')


class MakeTest(FileToolCase):
    def test_mkdir(self):
        self.does('mkdir /d d/e /d/e/f x/')
        self.assertEqual(self.names(), ('d', 'x'))
        self.assertEqual(self.kind('/d/e/f'), FOLDER)
        self.assertEqual((self.files.status('/d').mode, self.files.status('/d').owner), (61, 0))
        self.fails('mkdir d new none/x /d/. also', 'exists', 'missing', 'exists')
        self.assertEqual(self.names(), ('also', 'd', 'new', 'x'))
        self.fails('mkdir ' + 'n' * 31, 'bad name')

    def test_rmdir(self):
        self.put('/f', '')
        for path in ('/a', '/b', '/b/c', '/d'):
            self.files.make_folder(path)
        self.fails('rmdir b f none a / d/', 'not empty', 'not a folder', 'missing', 'busy')
        self.assertEqual(self.names(), ('b', 'f'))
        self.does('rmdir b/c b')
        self.fails('rmdir .', 'busy')

    def test_rm(self):
        for path in ('/a', '/b', '/c'):
            self.put(path, 'x')
        self.files.make_folder('/d')
        self.files.make_link('/l', 'c')
        self.fails('rm a none d b l', 'missing', 'is a folder')
        self.assertEqual(self.names(), ('c', 'd'))
        self.fails('rm c/', 'not a folder')
        self.fails('rm /', 'busy')

    def test_touch(self):
        self.put('/a', 'text')
        self.files.make_folder('/d')
        self.does('touch a new d/x d / d/')
        self.assertEqual((self.text('/a'), self.text('/new'), self.text('/d/x')), ('text', '', ''))
        self.assertEqual((self.files.status('/new').mode, self.kind('/new')), (52, FILE))
        self.fails('touch none/x new2 a/x none/', 'missing', 'not a folder', 'not a folder')
        self.assertEqual(self.names(), ('a', 'd', 'new', 'new2'))

    def test_as_another_user(self):
        self.files.make_folder('/d')
        self.files.make_folder('/open', mode=63)
        self.put('/d/f', '')
        self.fails('mkdir /d/x', 'denied', user=4)
        self.fails('touch /d/x /d/f', 'denied', user=4)
        self.fails('rm /d/f', 'denied', user=4)
        self.does('touch /open/f', user=4)
        self.does('mkdir /open/g', user=4)
        self.assertEqual(tree_of(self.files), (
            ('d', 61, 0, ('folder', (('f', 52, 0, ''),))),
            ('open', 63, 0, ('folder', (('f', 52, 4, ''), ('g', 61, 4, ('folder', ())))))))

    def test_one_file_at_a_step(self):
        kernel = Kernel(self.files)
        number = kernel.start(make_tool(['touch', '/a', '/b', '/c']), kernel.console_table())
        for names in (('a',), ('a', 'b'), ('a', 'b', 'c'), ('a', 'b', 'c')):
            kernel.step(number)
            self.assertEqual(self.names(), names)


class MoveTest(FileToolCase):
    def setUp(self):
        super().setUp()
        self.put('/a', 'a text')
        self.put('/b', 'b text')
        self.files.make_folder('/d')
        self.files.make_folder('/e')
        self.put('/e/x', '')

    def test_mv(self):
        self.does('mv a d/c')
        self.assertEqual((self.names(), self.text('/d/c')), (('b', 'd', 'e'), 'a text'))
        self.does('mv d/c b')
        self.assertEqual((self.names(), self.text('/b')), (('b', 'd', 'e'), 'a text'))
        self.does('mv b b')
        self.does('mv e d')
        self.assertEqual((self.names(), self.names('/d')), (('b', 'd'), ('x',)))

    def test_mv_that_cannot_be_done(self):
        for words, fault in (('none c', 'missing'), ('a d', 'is a folder'), ('d a', 'not a folder'), ('d e', 'not empty'),
                             ('/ c', 'busy'), ('e e/y', 'busy'), ('a none/x', 'missing'), ('a b/c', 'not a folder'),
                             ('a ' + 'n' * 31, 'bad name'), ('. c', 'busy')):
            self.fails('mv ' + words, fault)
        self.assertEqual(self.names(), ('a', 'b', 'd', 'e'))
        self.refuses('mv', 'mv a', 'mv a b c')
        self.fails('mv /e/x /e/y', 'denied', user=9)

    def test_cp(self):
        self.does('cp a c')
        self.assertEqual((self.text('/a'), self.text('/c')), ('a text', 'a text'))
        self.does('cp a b')
        self.assertEqual(self.text('/b'), 'a text')
        self.put('/long', 'x' * 950)
        self.does('cp long d/long')
        self.assertEqual(self.text('/d/long'), 'x' * 950)
        self.does('cp a d/long')
        self.assertEqual(self.text('/d/long'), 'a text')
        self.put('/none', '')
        self.does('cp none a')
        self.assertEqual(self.text('/a'), '')

    def test_cp_keeps_the_mode_of_what_is_there(self):
        change_mode(self.files, '/a', 63)
        change_mode(self.files, '/b', 48)
        self.does('cp a b')
        self.does('cp a c')
        self.assertEqual((self.files.status('/b').mode, self.files.status('/c').mode), (48, 52))

    def test_cp_onto_itself(self):
        link(self.files, '/a', '/same')
        self.files.make_link('/l', 'a')
        for words in ('a a', 'a same', 'same a', 'a l', 'l a', 'a ./d/../a'):
            self.does('cp ' + words)
            self.assertEqual(self.text('/a'), 'a text')

    def test_cp_by_links(self):
        self.files.make_link('/to-a', 'a')
        self.files.make_link('/to-b', '/b')
        self.does('cp to-a to-b')
        self.assertEqual((self.text('/b'), self.kind('/to-b', follow=False)), ('a text', LINK))

    def test_cp_that_cannot_be_done(self):
        for words, fault in (('none c', 'missing'), ('d c', 'not a file'), ('a d', 'not a file'), ('a none/x', 'missing'),
                             ('a b/x', 'not a folder'), ('a/ c', 'not a folder'), ('a c/', 'not a folder')):
            self.fails('cp ' + words, fault)
        self.assertEqual(self.names(), ('a', 'b', 'd', 'e'))
        self.refuses('cp', 'cp a', 'cp a b c')
        change_mode(self.files, '/a', 48)
        self.fails('cp a c', 'denied', user=9)
        self.fails('cp b a', 'denied', user=9)
        self.assertEqual((self.text('/a'), self.names()), ('a text', ('a', 'b', 'd', 'e')))

    def test_cp_without_room(self):
        self.put('/long', 'x' * 2000)
        self.put('/fill', '')
        number = self.files.resolve('/fill')
        while self.files.blocks.free_count() > 10:
            size = self.files.blocks.inode(number).size
            if size > 30 * 64:
                number = self.files.create(f'/n{self.files.blocks.free_count()}')
                size = 0
            self.files.write(number, size, 'x' * 64)
        self.fails('cp long c', 'no space')

    def test_cp_to_nothing(self):
        self.does('cp a /dev/null')
        self.does('cp /dev/null b')
        self.assertEqual((self.text('/b'), self.names()), ('', ('a', 'b', 'd', 'e')))

    def test_ln(self):
        self.does('ln a c')
        self.assertEqual((self.text('/c'), self.files.status('/a').links), ('a text', 2))
        self.does('ln -s d/x s')
        self.assertEqual((self.kind('/s', follow=False), self.files.status('/s', follow=False).size), (LINK, 3))
        self.does(['ln', '-s', 'any text /.', 'd/s'])
        for words, fault in (('a b', 'exists'), ('d x', 'is a folder'), ('none x', 'missing'), ('-s x b', 'exists'),
                             ('-s x none/y', 'missing'), ('-s x y/', 'not a folder')):
            self.fails('ln ' + words, fault)
        self.fails(['ln', '-s', '', 'y'], 'bad name')
        self.refuses('ln', 'ln a', 'ln a b c', 'ln -s', 'ln -s a', 'ln -s a b c')

    def test_chmod(self):
        for one in range(8):
            for other in range(8):
                self.does(f'chmod {one}{other} a')
                self.assertEqual(self.files.status('/a').mode, 8 * one + other)
        self.does('chmod 05 d')
        self.assertEqual(self.files.status('/d').mode, 5)
        self.refuses('chmod', 'chmod 75', 'chmod 7 a', 'chmod 755 a', 'chmod 8 a', 'chmod 78 a', 'chmod 87 a', 'chmod rw a', 'chmod 7x a', 'chmod xx a',
                     'chmod -1 a', 'chmod 64 a b', ['chmod', '', 'a'], ['chmod', ' 7', 'a'], 'chmod a 75')
        self.fails('chmod 64 none', 'missing')
        self.fails('chmod 77 a', 'denied', user=2)

    def test_chmod_follows_links(self):
        self.files.make_link('/l', 'a')
        self.does('chmod 70 l')
        self.assertEqual((self.files.status('/a').mode, self.files.status('/l', follow=False).mode), (56, 61))


class WhereTest(FileToolCase):
    def test_paths_lead_from_the_folder(self):
        self.files.make_folder('/d', mode=63)
        folder = self.files.resolve('/d')
        more = {'folder': folder, 'user': 7}
        self.does('touch f', **more)
        self.does('mkdir g', **more)
        self.does('cp f g/h', **more)
        self.does('mv f g/f', **more)
        self.does('ln g/f g/k', **more)
        self.does('ln -s g/f l', **more)
        self.does('chmod 77 g', **more)
        size = self.files.status('/d/g').size
        self.gives('ls -l', f'drwxrwx 1 7 {size} g\nlrwxr-x 1 7 3 l\n', **more)
        self.gives('find .', '.\n./g\n./g/f\n./g/h\n./g/k\n./l\n', **more)
        self.does('rm g/f g/h l', **more)
        self.fails('rmdir g', 'not empty', **more)
        self.does('test -f g/k', **more)

    def test_nothing_is_read_and_written_by_its_path(self):
        self.put('/f', 'x')
        self.gives('cat /dev/null', '')
        self.gives('cat /dev/null /f', 'x')
        self.gives('tee /dev/null', 'text', 'text')
        self.gives('tee -a /dev/null', 'text', 'text')
        self.assertEqual(self.names(), ('f',))

    def test_descriptors_that_cannot_be_used(self):
        self.put('/f', '')
        for words in (['echo', 'a'], ['ls', '/'], ['seq', '1', '3'], ['find', '/']):
            kernel = Kernel(self.files)
            table = kernel.console_table()
            table.close(1)
            process = kernel.process(kernel.start(make_tool(words), table))
            kernel.run(())
            self.assertEqual((kernel.console.written, process.code), (words[0] + ': not open\n', 1))

    def test_a_file_that_is_read_is_not_written(self):
        self.put('/f', 'text')
        kernel = Kernel(self.files)
        table = kernel.console_table()
        table.close(1)
        # The file gets the number that was free, 1.
        process = kernel.process(kernel.start(make_tool(['cat', '/f']), table))
        kernel.run(())
        self.assertEqual((kernel.console.written, process.code, self.text('/f')), ('cat: not writable\n', 1, 'text'))

    def test_nothing_takes_all(self):
        kernel = Kernel(self.files)
        table = Table()
        for number in range(3):
            table.put(number, Nothing())
        process = kernel.process(kernel.start(make_tool(['echo', 'x' * 500]), table))
        kernel.run(())
        self.assertEqual((kernel.console.written, process.code), ('', 0))


if __name__ == '__main__':
    unittest.main()
