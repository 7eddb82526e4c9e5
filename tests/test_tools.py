"""Text tools: what they write, their complaints and codes, with files and without."""

import random
import unittest

from hoststack.filetools import is_tool, make_tool
from hoststack.kernel import Kernel
from hoststack.names import change_mode
from hoststack.opened import Nothing, OpenFile, PipeEnd, Table
from hoststack.pipe import Pipe
from hoststack.tools import is_number
from tests.helpers import ToolCase

NAMES = ('cat', 'head', 'tail', 'wc', 'grep', 'sort', 'uniq', 'rev', 'replace', 'tr', 'tee')


class NumberTest(unittest.TestCase):
    def test_numbers(self):
        for text in ('0', '7', '-7', '-0', '007', '999999999', '-999999999'):
            self.assertIs(is_number(text), True, text)
        for text in ('', '-', '--1', '+1', '1-', '1 ', ' 1', 'x', '1x', '1.0', '1234567890', '-1234567890', '\n', '1\n'):
            self.assertIs(is_number(text), False, text)


class ToolTest(ToolCase):
    def test_words(self):
        words = ['grep', '-v', 'x', '/a']
        self.assertEqual(make_tool(words).words, words)
        self.assertEqual(make_tool(['tr']).words, ['tr'])

    def test_other_names(self):
        for name in ('', 'Cat', 'cats', '/cat', 'cat '):
            self.assertFalse(is_tool(name))
        for name in NAMES:
            self.assertTrue(is_tool(name))

    def test_two_hundred_characters_at_once(self):
        self.put('/f', 'x' * 950)
        for words in (['cat', '/f'], ['tail', '/f'], ['rev', '/f'], ['sort', '/f', '/f']):
            self.assertEqual(self.most_at_once(words), 200, words)

    def test_small_pipes(self):
        text = 'one\ntwo two\n\nthree'
        for words, found in ((['cat'], text), (['sort'], '\none\nthree\ntwo two\n'), (['wc'], '3 4 18\n'),
                             (['rev'], 'eno\nowt owt\n\neerht\n'), (['head', '-2'], 'one\ntwo two\n')):
            for size in (1, 2, 3, 50):
                for seed in range(4):
                    self.assertEqual(self.through_pipes(words, text, size, seed), found)

    def through_pipes(self, words, text, size, seed):
        """Return what a tool makes of a text that comes and goes through pipes."""
        chance = random.Random(seed)
        if self.files.list_folder('/') == ():
            self.put('/in', text)
        number = self.files.resolve('/in')
        kernel = Kernel(self.files)
        pipes = [Pipe(size), Pipe(size)]
        ends = ((OpenFile(self.files, number, True, False, False), PipeEnd(pipes[0], True)),
                (PipeEnd(pipes[0], False), PipeEnd(pipes[1], True)), (PipeEnd(pipes[1], False), kernel.console))
        for row, (one, other) in zip((['cat'], words, ['cat']), ends):
            table = Table()
            table.put(0, one)
            table.put(1, other)
            table.put(2, Nothing())
            kernel.start(make_tool(row), table)
        kernel.run([chance.randrange(6) for _ in range(chance.choice((0, 100, 1000)))])
        return kernel.console.written

    def test_descriptors_that_cannot_be_used(self):
        kernel = Kernel(self.files)
        table = kernel.console_table()
        table.put(0, PipeEnd(Pipe(1), True))
        kernel.start(make_tool(['cat']), table)
        kernel.run(())
        self.assertEqual(kernel.console.written, 'cat: not readable\n')
        for number, found, code in ((1, 'cat: not open\n', 1), (2, 'entered\n', 0), (0, 'cat: not open\n', 1)):
            kernel = Kernel(self.files, entered='entered\n')
            table = kernel.console_table()
            table.close(number)
            process = kernel.process(kernel.start(make_tool(['cat']), table))
            kernel.run(())
            self.assertEqual((kernel.console.written, process.code), (found, code))

    def test_files_are_closed_before_the_next_one(self):
        for name in 'abc':
            self.put('/' + name, name)
        kernel = Kernel(self.files)
        number = kernel.start(make_tool(['sort', '/a', '/x', '/b', '/', '/c']), kernel.console_table())
        most = 0
        while kernel.alive() != []:
            most = max(most, len(kernel.process(number).table.rows))
            kernel.step(number)
        self.assertEqual((most, kernel.console.written), (4, 'sort: missing\nsort: not a file\nabc\n'))

    def test_nowhere_to_complain(self):
        kernel = Kernel(self.files)
        table = kernel.console_table()
        table.close(2)
        process = kernel.process(kernel.start(make_tool(['cat', '/none']), table))
        kernel.run(())
        self.assertEqual((kernel.console.written, process.code), ('', 139))

    def test_no_reader(self):
        kernel = Kernel(self.files, entered='text')
        table = kernel.console_table()
        table.put(1, PipeEnd(Pipe(1), True))
        process = kernel.process(kernel.start(make_tool(['cat']), table))
        kernel.run(())
        self.assertEqual((kernel.console.written, process.code), ('', 141))

    def test_no_space(self):
        self.put('/f', 'x' * 300)
        number = self.files.create('/g')
        full = self.files.create('/full')
        while self.files.blocks.free_count() > 2:
            size = self.files.blocks.inode(full).size
            if size > 37 * 64:
                full = self.files.create(f'/{self.files.blocks.free_count()}')
                size = 0
            self.files.write(full, size, 'x' * 64)
        kernel = Kernel(self.files)
        table = kernel.console_table()
        table.put(1, OpenFile(self.files, number, False, True, False))
        process = kernel.process(kernel.start(make_tool(['cat', '/f', '/none']), table))
        kernel.run(())
        self.assertEqual((kernel.console.written, process.code), ('cat: no space\n', 1))


class CatTest(ToolCase):
    def test_files(self):
        self.put('/a', 'one')
        self.put('/b', 'two\n')
        self.put('/none', '')
        self.gives('cat', 'entered\ntext', 'entered\ntext')
        self.gives('cat', '')
        self.gives('cat /a', 'one', 'entered')
        self.gives('cat /a /b /none /a', 'onetwo\none')

    def test_a_long_file(self):
        text = ''.join(f'{number}\n' for number in range(500))
        self.put('/f', text)
        self.gives('cat /f /f', text + text)

    def test_missing_files(self):
        self.put('/a', 'a\n')
        self.put('/b', 'b\n')
        self.files.make_folder('/d')
        self.gives('cat /x', '', told='cat: missing\n', code=1)
        self.gives('cat /d /a /a/b', 'a\n', told='cat: not a file\ncat: not a folder\n', code=1)
        self.assertEqual(self.shown('cat /a /x /b'), ('a\ncat: missing\nb\n', 1))

    def test_rights_and_folders(self):
        self.files.make_folder('/d', mode=63)
        self.put('/d/f', 'text')
        folder = self.files.resolve('/d')
        self.gives('cat f', 'text', folder=folder, user=3)
        change_mode(self.files, '/d/f', 48)
        self.gives('cat f ../d/./f', '', folder=folder, user=3, told='cat: denied\ncat: denied\n', code=1)
        self.gives('cat f', 'text', folder=folder)

    def test_descriptor_zero_is_read_once(self):
        self.put('/a', 'a')
        self.gives('cat /a', 'a', 'entered')


class HeadTest(ToolCase):
    TEXT = ''.join(f'line {number}\n' for number in range(1, 15))

    def test_ten_lines(self):
        self.put('/f', self.TEXT)
        self.gives('head', ''.join(f'line {number}\n' for number in range(1, 11)), self.TEXT)
        self.gives('tail', ''.join(f'line {number}\n' for number in range(5, 15)), self.TEXT)
        self.gives('head /f', ''.join(f'line {number}\n' for number in range(1, 11)))
        self.gives('tail /f', ''.join(f'line {number}\n' for number in range(5, 15)))

    def test_so_many_lines(self):
        for text in ('', 'a\nb\nc\n', 'a\nb\nc', '\n\n\n', '\n', 'a'):
            lines = text.split('\n')[:-1] if text.endswith('\n') or text == '' else text.split('\n')
            for many in (0, 1, 2, 3, 4, 100):
                self.gives(f'head -{many}', ''.join(line + '\n' for line in lines[:many]), text)
                self.gives(f'tail -{many}', ''.join(line + '\n' for line in lines[max(0, len(lines) - many):]), text)

    def test_several_files(self):
        self.put('/a', 'a1\na2\n')
        self.put('/b', 'b1\nb2')
        self.gives('head -3 /a /b', 'a1\na2\nb1\n')
        self.gives('tail -3 /a /b', 'a2\nb1\nb2\n')
        self.gives('head -3 /x /a /b', 'a1\na2\nb1\n', told='head: missing\n', code=1)
        self.gives('tail -1 /a /x', 'a2\n', told='tail: missing\n', code=1)

    def test_nobody_looks_further(self):
        self.put('/a', 'a1\na2\n')
        self.gives('head -2 /a /x', 'a1\na2\n')
        self.gives('head -3 /a /x', 'a1\na2\n', told='head: missing\n', code=1)
        self.gives('head -0 /x', '')
        self.gives('tail -0 /x', '')

    def test_no_character_behind_is_read(self):
        for choices in ((), (1,) * 300, (0, 1) * 200):
            kernel = Kernel(self.files, entered='a\nbc\nd\ne\n')
            first = kernel.start(make_tool(['head', '-2']), kernel.console_table())
            while kernel.alive() != []:
                kernel.step(first)
            self.assertEqual((kernel.console.written, kernel.console.take(99)), ('a\nbc\n', 'd\ne\n'))

    def test_words_that_do_not_fit(self):
        self.refuses('head -x', 'tail -x', 'head -', 'tail --1', 'head -1x', 'tail -1234567890')
        self.gives('head -1 -2', '', told='head: missing\n', code=1)


class CountTest(ToolCase):
    def test_numbers(self):
        rows = {'': '0 0 0', '\n': '1 0 1', 'a': '0 1 1', 'a b\n': '1 2 4', '  a  b  \n\n c': '2 3 12', 'x' * 500: '0 1 500'}
        for text, found in rows.items():
            self.gives('wc', found + '\n', text)

    def test_files(self):
        self.put('/a', 'one')
        self.put('/b', 'two three\n')
        self.gives('wc /a /b', '1 2 13\n')
        self.gives('wc /x /b', '1 2 10\n', told='wc: missing\n', code=1)


class GrepTest(ToolCase):
    def test_lines(self):
        text = 'one\ntwo\n\nthree one\ntwone'
        self.gives('grep one', 'one\nthree one\ntwone\n', text)
        self.gives('grep -v one', 'two\n\n', text)
        self.gives('grep w', 'two\ntwone\n', text)
        self.gives('grep none', '', text, code=1)
        self.gives(['grep', ''], 'one\ntwo\n\nthree one\ntwone\n', text)
        self.gives(['grep', '-v', ''], '', text, code=1)
        self.gives('grep o.e', '', text, code=1)
        self.gives('grep x', '', '', code=1)
        self.gives(['grep', 'e o'], 'three one\n', text)

    def test_files(self):
        self.put('/a', 'ax\nb\n')
        self.put('/b', 'cx')
        self.gives('grep x /a /b', 'ax\ncx\n')
        self.gives('grep x /a /x /b', 'ax\ncx\n', told='grep: missing\n', code=1)
        self.assertEqual(self.shown('grep x /a /x /b'), ('ax\ngrep: missing\ncx\n', 1))
        self.gives('grep y /a', '', code=1)

    def test_options(self):
        self.gives('grep -x', '-x\n', '-x\ny\n')
        self.gives('grep -v -v', 'y\n', '-v\ny\n')
        self.refuses('grep', 'grep -v')


class SortTest(ToolCase):
    def test_order(self):
        text = 'b\na\n\nB\n10\n9\na b\na\n'
        self.gives('sort', '\n10\n9\nB\na\na\na b\nb\n', text)
        self.gives('sort -r', 'b\na b\na\na\nB\n9\n10\n\n', text)
        self.gives('sort', '', '')
        self.gives('sort', 'a\nb\n', 'b\na')
        self.gives('sort', '\n', '\n')

    def test_files(self):
        self.put('/a', 'c\na\n')
        self.put('/b', 'b\n')
        self.gives('sort /a /b', 'a\nb\nc\n')
        self.gives('sort -r /a /x /b', 'c\nb\na\n', told='sort: missing\n', code=1)
        self.gives('sort -x /a', 'a\nc\n', told='sort: missing\n', code=1)


class UniqTest(ToolCase):
    def test_lines(self):
        text = 'a\na\nb\na\n\n\n\nc\nc'
        self.gives('uniq', 'a\nb\na\n\nc\n', text)
        self.gives('uniq -c', '2 a\n1 b\n1 a\n3 \n2 c\n', text)
        for text in ('', '\n', 'x\n', 'x'):
            self.gives('uniq', text if text in ('', '\n') else 'x\n', text)
        self.gives('uniq -c', '', '')
        self.gives('uniq -c', '12 x\n', 'x\n' * 12)

    def test_files(self):
        self.put('/a', 'x\n')
        self.put('/b', 'x\ny\n')
        self.gives('uniq /a /b', 'x\ny\n')
        self.gives('uniq -c /a /none /b', '2 x\n1 y\n', told='uniq: missing\n', code=1)


class LettersTest(ToolCase):
    def test_rev(self):
        self.gives('rev', 'cba\n\nd e\n', 'abc\n\ne d')
        self.gives('rev', '', '')
        self.put('/a', 'abc\n')
        self.gives('rev /x /a', 'cba\n', told='rev: missing\n', code=1)

    def test_replace(self):
        self.gives('replace a bb', 'bbxbb\nbb', 'axa\na')
        self.gives('replace aa a', 'aa\n', 'aaa\n')
        self.gives(['replace', 'a', ''], 'x\n', 'axa\n')
        self.gives(['replace', '\n', ', '], 'a, b, ', 'a\nb\n')
        self.gives(['replace', 'a\nb', 'c'], 'c\n', 'a\nb\n')
        self.gives('replace x y', '', '')
        self.gives('replace old new', 'no line end', 'no line end')

    def test_replace_across_what_is_read_at_once(self):
        text = ('x' * 99 + 'old') * 9 + 'o'
        self.gives('replace old new', text.replace('old', 'new'), text)
        text = 'ab\n' * 300
        self.gives(['replace', 'b\na', 'X'], text.replace('b\na', 'X'), text)

    def test_replace_in_files(self):
        self.put('/a', 'fo')
        self.put('/b', 'o\n')
        self.gives('replace foo bar /a /b', 'bar\n')
        self.gives('replace foo bar /a /x /b', 'bar\n', told='replace: missing\n', code=1)
        self.refuses('replace', 'replace a', ['replace', '', 'a'])

    def test_tr(self):
        self.gives('tr abc xyz', 'xyzd\nzyx', 'abcd\ncba')
        self.gives('tr abc x', 'xxxd', 'abcd')
        self.gives('tr abc xy', 'xyyd', 'abcd')
        self.gives('tr a xyz', 'xbc', 'abc')
        self.gives(['tr', '\n', ' '], 'a b ', 'a\nb\n')
        self.gives('tr aa xy', 'x', 'a')
        self.gives(['tr', '', 'x'], 'abc', 'abc')
        self.gives('tr a b', '', '')
        self.refuses('tr', 'tr a', 'tr a b /f', ['tr', 'a', ''])


class TeeTest(ToolCase):
    def test_files(self):
        self.gives('tee /f', 'one\ntwo', 'one\ntwo')
        self.assertEqual(self.text('/f'), 'one\ntwo')
        self.gives('tee /f', 'x\n', 'x\n')
        self.assertEqual(self.text('/f'), 'x\n')
        self.gives('tee -a /f', 'y' * 500, 'y' * 500)
        self.assertEqual(self.text('/f'), 'x\n' + 'y' * 500)
        self.gives('tee -a /g', 'new', 'new')
        self.assertEqual(self.text('/g'), 'new')
        self.gives('tee /f', '', '')
        self.assertEqual(self.text('/f'), '')

    def test_faults(self):
        self.files.make_folder('/d')
        self.gives('tee /d', 'text', 'text', told='tee: not a file\n', code=1)
        self.gives('tee /x/y', 'text', 'text', told='tee: missing\n', code=1)
        self.refuses('tee', 'tee -a', 'tee /a /b', 'tee -a /a /b')

    def test_nowhere_to_write(self):
        kernel = Kernel(self.files, entered='text')
        table = kernel.console_table()
        table.close(1)
        process = kernel.process(kernel.start(make_tool(['tee', '/f']), table))
        kernel.run(())
        # The file gets the number that was free, 1, and so all that is written.
        self.assertEqual((kernel.console.written, process.code, self.text('/f')), ('', 0, 'texttext'))

    def test_descriptor_one_that_cannot_be_written(self):
        kernel = Kernel(self.files, entered='text')
        table = kernel.console_table()
        table.put(1, PipeEnd(Pipe(1), False))
        process = kernel.process(kernel.start(make_tool(['tee', '/f']), table))
        kernel.run(())
        self.assertEqual((kernel.console.written, process.code), ('tee: not writable\n', 1))

    def test_a_file_that_becomes_too_large(self):
        text = ''.join(f'{number}\n' for number in range(700))
        self.gives('tee /f', text, text, told='tee: too large\n', code=1)
        self.assertEqual(self.text('/f'), text[:len(self.text('/f'))])


class LongTest(ToolCase):
    def test_lines_across_what_is_read_at_once(self):
        lines = ['x' * number for number in (0, 1, 199, 200, 201, 400, 3)]
        text = ''.join(line + '\n' for line in lines)
        for name, found in (('sort', ''.join(line + '\n' for line in sorted(lines))), ('uniq', text), ('rev', text),
                            ('cat', text), ('tail', text), ('head', text), ('wc', f'7 6 {len(text)}\n')):
            self.gives(name, found, text)
            self.gives(name, found, text, choices=(3, 1, 2))


if __name__ == '__main__':
    unittest.main()
