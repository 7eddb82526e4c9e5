"""Line tools: parts of lines, pasted files, differences, sums and packed files."""

import itertools
import random
import unittest

from hoststack.filetools import is_tool, make_tool
from hoststack.letters import LETTERS
from hoststack.linetools import PACK_MARK, difference, lines_of, pack_lines, unpack_rows
from hoststack.names import change_mode, change_owner, tree_of
from tests.helpers import ToolCase, new_files, word_of

NAMES = ('cut', 'sum', 'paste', 'cmp', 'diff', 'pack', 'unpack')
TREE = (('a', 52, 0, 'one\ntwo\n'), ('b c', 7, 3, 'x'), ('d', 61, 0, ('folder', (
    ('e', 0, 0, ('folder', ())), ('f', 52, 0, ''), ('l', 61, 0, ('link', '../a'))))), ('z', 52, 0, '\n|\n#pack'))


class LinesTest(unittest.TestCase):
    def test_lines(self):
        rows = {'': [], '\n': [''], 'a': ['a'], 'a\n': ['a'], 'a\nb': ['a', 'b'], 'a\n\nb\n\n': ['a', '', 'b', ''],
                ' \n': [' ']}
        for text, lines in rows.items():
            self.assertEqual(lines_of(text), lines, text)


def shortest(one, other):
    """Return how many lines must be dropped and added, by trying all common rows."""
    for many in range(min(len(one), len(other)), -1, -1):
        rows = {tuple(one[place] for place in places) for places in itertools.combinations(range(len(one)), many)}
        for places in itertools.combinations(range(len(other)), many):
            if tuple(other[place] for place in places) in rows:
                return len(one) + len(other) - 2 * many
    return None


class DifferenceTest(unittest.TestCase):
    def check(self, one, other):
        found = difference(one, other)
        self.assertIsInstance(found, list)
        self.assertEqual([line for sign, line in found if sign != '>'], one)
        self.assertEqual([line for sign, line in found if sign != '<'], other)
        for (sign, line), (after, more) in zip(found, found[1:]):
            self.assertFalse(sign == '>' and after == '<', found)
        return len([sign for sign, line in found if sign != '='])

    def test_rows(self):
        self.assertEqual(difference([], []), [])
        self.assertEqual(difference(['a', 'b'], ['a', 'b']), [('=', 'a'), ('=', 'b')])
        self.assertEqual(difference(['a'], []), [('<', 'a')])
        self.assertEqual(difference([], ['a', 'b']), [('>', 'a'), ('>', 'b')])
        self.assertEqual(difference(['a', 'x', 'c'], ['a', 'y', 'z', 'c']),
                         [('=', 'a'), ('<', 'x'), ('>', 'y'), ('>', 'z'), ('=', 'c')])
        self.assertEqual(difference(['a', 'b'], ['b', 'a']), [('<', 'a'), ('=', 'b'), ('>', 'a')])

    def test_the_shortest_way(self):
        chance = random.Random(3)
        for _ in range(300):
            one, other = [chance.choices('abc', k=chance.randint(0, 6)) for _ in range(2)]
            self.assertEqual(self.check(one, other), shortest(one, other), (one, other))

    def test_long_rows(self):
        one = [str(number) for number in range(400)]
        other = [line for line in one if int(line) % 7] + ['x']
        self.assertEqual(self.check(one, other), 58 + 1)


class PackTest(unittest.TestCase):
    LINES = ['file 52 a', '|one', '|two', '|', 'file 7 b c', '|x', 'folder 61 d', 'folder 0 d/e', 'file 52 d/f', '|',
             'link 61 d/l', '|../a', 'file 52 z', '|', '||', '|#pack']

    def text(self, *lines):
        return ''.join(line + '\n' for line in (PACK_MARK, *lines))

    def test_pack(self):
        self.assertEqual(PACK_MARK, '#pack')
        self.assertEqual(pack_lines(TREE), self.LINES)
        self.assertEqual(pack_lines(TREE[:1], 'x/y/'), ['file 52 x/y/a', '|one', '|two', '|'])
        self.assertEqual(pack_lines((('folder', 52, 0, 'folder'),)), ['file 52 folder', '|folder'])
        self.assertEqual(pack_lines(()), [])

    def test_unpack(self):
        found = unpack_rows(self.text(*self.LINES))
        self.assertIsInstance(found, list)
        self.assertEqual(found, [('file', 52, 'a', 'one\ntwo\n'), ('file', 7, 'b c', 'x'), ('folder', 61, 'd', ''),
                                 ('folder', 0, 'd/e', ''), ('file', 52, 'd/f', ''), ('link', 61, 'd/l', '../a'),
                                 ('file', 52, 'z', '\n|\n#pack')])
        self.assertEqual(unpack_rows(PACK_MARK), [])
        self.assertEqual(unpack_rows(self.text()), [])
        self.assertEqual(unpack_rows(self.text('file 1 x')), [('file', 1, 'x', '')])
        self.assertEqual(unpack_rows('#pack\nfile 1 x\n|a\n|b'), [('file', 1, 'x', 'a\nb')])
        self.assertEqual(unpack_rows(self.text('file -1 a  b ')), [('file', -1, 'a  b ', '')])

    def test_texts_there_and_back(self):
        for text in ('', '\n', 'a', 'a\n', '\na', 'a\n\n', '|', '||\n|', ' ', '#pack\n', LETTERS):
            rows = (('f', 52, 0, text), ('g', 52, 0, text))
            found = unpack_rows(self.text(*pack_lines(rows)))
            self.assertEqual(found, [('file', 52, 'f', text), ('file', 52, 'g', text)])

    def test_texts_that_are_no_packs(self):
        for text in ('', '\n', '#', 'pack\n', '#pack \n', ' #pack', 'file 52 a\n', '\n#pack\n'):
            self.assertEqual(word_of(lambda: unpack_rows(text)), 'bad pack', text)
        for line in ('', ' ', '|', '|x', 'file', 'file 52', 'file x a', 'file  52 a', 'File 52 a', 'pipe 52 a', '#pack',
                     'file 1234567890 a', 'file 5x a', ' file 52 a'):
            for lines in ((line,), ('folder 61 d', line)):
                self.assertEqual(word_of(lambda: unpack_rows(self.text(*lines))), 'bad pack', lines)
        self.assertEqual(word_of(lambda: unpack_rows(self.text('file 52 a', '|x', ''))), 'bad pack')


class CutTest(ToolCase):
    def test_characters(self):
        text = 'abcdef\n\nab\na b'
        self.gives('cut -c 2-4', 'bcd\n\nb\n b\n', text)
        self.gives('cut -c 3', 'c\n\n\nb\n', text)
        self.gives('cut -c 1-1', 'a\n\na\na\n', text)
        self.gives('cut -c 0-2', 'ab\n\nab\na \n', text)
        self.gives('cut -c 5-999', 'ef\n\n\n\n', text)
        self.gives('cut -c 4-2', '\n\n\n\n', text)
        self.gives('cut -c 2-4', '', '')

    def test_words_of_lines(self):
        text = 'one two  three\n\n  four\nfive six'
        self.gives('cut -f 1', 'one\n\nfour\nfive\n', text)
        self.gives('cut -f 2', 'two\n\n\nsix\n', text)
        self.gives('cut -f 3', 'three\n\n\n\n', text)
        self.gives('cut -f 99', '\n\n\n\n', text)

    def test_files(self):
        self.put('/a', 'abc\n')
        self.put('/b', 'xyz')
        self.gives('cut -c 2 /a /b', 'b\ny\n')
        self.gives('cut -f 1 /a /x /b', 'abc\nxyz\n', told='cut: missing\n', code=1)
        self.assertEqual(self.shown('cut -c 1 /a /x /b'), ('a\ncut: missing\nx\n', 1))

    def test_words_that_do_not_fit(self):
        self.refuses('cut', 'cut -c', 'cut -f', 'cut -x 1', 'cut 1', 'cut -c 0', 'cut -f 0', 'cut -c x', 'cut -f x',
                     'cut -c 1-', 'cut -c -1', 'cut -c 1-0', 'cut -c 1-x', 'cut -c 1-2-3', 'cut -f 1-2', 'cut -f -1',
                     'cut -c 1--2', 'cut -c 1234567890')


class SumTest(ToolCase):
    def reckoned(self, text):
        value = 7
        for letter in text:
            value = (31 * value + LETTERS.index(letter) + 1) % 1000003
        return f'{value} {len(text)}\n'

    def test_sums(self):
        self.gives('sum', '7 0\n', '')
        self.gives('sum', '218 1\n', '\n')
        self.gives('sum', '219 1\n', ' ')
        for text in ('a', 'text\n', LETTERS * 9):
            self.gives('sum', self.reckoned(text), text)

    def test_files(self):
        self.put('/a', 'ab')
        self.put('/b', 'c\n')
        self.gives('sum /a /b', self.reckoned('abc\n'))
        self.gives('sum /a /x /b', self.reckoned('abc\n'), told='sum: missing\n', code=1)

    def test_what_is_no_character(self):
        self.gives('sum', '7 0\n', '\t', told='sum: bad text\n', code=1)


class PairTest(ToolCase):
    def setUp(self):
        ToolCase.setUp(self)
        for name, text in (('a', 'one\ntwo\nthree\n'), ('b', 'one\n2\nthree\nfour'), ('e', ''), ('n', '\n'),
                           ('o', 'one\ntwo\nthree'), ('s', 'x  \n  \n')):
            self.put('/' + name, text)

    def test_paste(self):
        self.gives('paste /a /b', 'one one\ntwo 2\nthree three\n four\n')
        self.gives('paste /b /a', 'one one\n2 two\nthree three\nfour\n')
        self.gives('paste /e /a', ' one\n two\n three\n')
        self.gives('paste /a /e', 'one\ntwo\nthree\n')
        self.gives('paste /e /e', '')
        self.gives('paste /n /n', '\n')
        self.gives('paste /s /e', 'x\n\n')
        self.gives('paste /e /s', ' x\n\n')

    def test_cmp(self):
        for one, other, code in (('a', 'a', 0), ('a', 'o', 0), ('a', 'b', 1), ('e', 'e', 0), ('e', 'n', 1), ('a', 'e', 1)):
            self.gives(f'cmp /{one} /{other}', '', code=code)

    def test_diff(self):
        self.gives('diff /a /b', '< two\n> 2\n> four\n', code=1)
        self.gives('diff /b /a', '< 2\n> two\n< four\n', code=1)
        self.gives('diff /a /o', '')
        self.gives('diff /a /a', '')
        self.gives('diff /e /n', '> \n', code=1)
        self.gives('diff /a /e', '< one\n< two\n< three\n', code=1)

    def test_faults_end_at_once(self):
        for name in ('paste', 'cmp', 'diff'):
            self.gives(f'{name} /x /y', '', told=f'{name}: missing\n', code=1)
            self.gives(f'{name} /a /y', '', told=f'{name}: missing\n', code=1)
            self.gives(f'{name} / /a', '', told=f'{name}: not a file\n', code=1)
            self.refuses(name, f'{name} /a', f'{name} /a /b /e')

    def test_long_files(self):
        one = ''.join(f'{number}\n' for number in range(300))
        other = ''.join(f'{number}\n' for number in range(300) if number % 50)
        self.put('/one', one)
        self.put('/other', other)
        self.gives('diff /one /other', ''.join(f'< {number}\n' for number in range(0, 300, 50)), code=1)


class UnpackTest(ToolCase):
    TREE = (('a', 52, 5, 'one\n'), ('d', 40, 5, ('folder', (('e', 0, 5, ('folder', (('x', 4, 5, 'x' * 300),))),
                                                            ('l', 61, 5, ('link', '../a'))))), ('z', 7, 5, ''))

    def make(self):
        files = self.files
        self.put('/a', 'one\n', user=5)
        files.make_folder('/d', user=5)
        files.make_folder('/d/e', user=5)
        self.put('/d/e/x', 'x' * 300, user=5, mode=4)
        files.make_link('/d/l', '../a', user=5)
        files.create('/z', user=5, mode=7)
        change_mode(files, '/d/e', 0)
        change_mode(files, '/d', 40)
        self.assertEqual(tree_of(files), self.TREE)

    def test_there_and_back(self):
        self.make()
        packed, told, code = self.run_tool('pack /')
        self.assertEqual((told, code), ('', 0))
        self.assertEqual(packed.split('\n')[:3], ['#pack', 'file 52 a', '|one'])
        for pieces in (1, 3):
            self.files = new_files(64, 600)
            self.files.make_folder('/in', mode=63)
            self.gives('unpack /in', '', packed, user=5)
            self.assertEqual(tree_of(self.files, self.files.resolve('/in')), self.TREE)

    def test_a_pack_in_files(self):
        self.put('/one', '#pack\nfile 52 a\n|o')
        self.put('/two', 'ne\nfile 7 b\n')
        self.files.make_folder('/in')
        self.gives('unpack /in /one /two', '')
        self.assertEqual(tree_of(self.files, self.files.resolve('/in')), (('a', 52, 0, 'one'), ('b', 7, 0, '')))
        self.gives('unpack in/. /one /x /two', '', told='unpack: missing\nunpack: exists\nunpack: exists\n', code=1)

    def test_a_folder_from_where_the_process_is(self):
        self.files.make_folder('/in')
        folder = self.files.resolve('/in')
        self.gives('unpack .', '', '#pack\nfile 52 a\n|x\n', folder=folder)
        self.assertEqual(self.text('/in/a'), 'x')
        self.gives('pack .', '#pack\nfile 52 a\n|x\n', folder=folder)
        self.gives('pack ../in', '#pack\nfile 52 a\n|x\n', folder=folder)

    def test_an_empty_folder(self):
        self.gives('pack /', '#pack\n')
        self.gives('unpack /', '', '#pack\n')
        self.assertEqual(tree_of(self.files), ())

    def test_modes_are_last(self):
        self.files.make_folder('/in', mode=63)
        self.gives('unpack /in', '', '#pack\nfolder 0 d\nfolder 0 d/e\nfile 0 d/e/f\n|x\n', user=3)
        self.assertEqual(tree_of(self.files, self.files.resolve('/in')),
                         (('d', 0, 3, ('folder', (('e', 0, 3, ('folder', (('f', 0, 3, 'x'),))),))),))

    def test_faults(self):
        self.put('/f', 'text')
        for entered in ('', 'text\n', '#pack\n|x', '#pack\nfile a b\n'):
            self.gives('unpack /', '', entered, told='unpack: bad pack\n', code=1)
        self.gives('unpack /x', '', '#pack\nfile 52 a\nfolder 61 b\n', told='unpack: missing\n' * 2, code=1)
        self.gives('unpack /f', '', '#pack\nfile 52 a\n', told='unpack: not a folder\n', code=1)
        self.gives('unpack /', '', '#pack\nfile 52 f\n|new\nfile 99 g\n|x\nlink 61 l\nfolder 61 d\n',
                   told='unpack: exists\nunpack: bad name\nunpack: bad mode\n', code=1)
        self.assertEqual(tree_of(self.files), (('d', 61, 0, ('folder', ())), ('f', 52, 0, 'text'), ('g', 52, 0, 'x')))
        self.refuses('unpack', 'pack', 'pack / /')
        self.gives('pack /x', '', told='pack: missing\n', code=1)
        self.gives('pack /f', '', told='pack: not a folder\n', code=1)

    def test_rights(self):
        self.files.make_folder('/d')
        self.put('/d/f', 'x')
        self.gives('pack /', '#pack\nfolder 61 d\nfile 52 d/f\n|x\n', user=4)
        for path, mode in (('/d/f', 48), ('/d', 57), ('/d', 60), ('/', 57)):
            old = self.files.status(path).mode
            change_mode(self.files, path, mode)
            self.gives('pack /', '', user=4, told='pack: denied\n', code=1)
            self.gives('pack /', self.run_tool('pack /')[0])
            change_mode(self.files, path, old)
        self.gives('unpack /d', '', '#pack\nfile 52 a\n', user=4, told='unpack: denied\n', code=1)
        change_owner(self.files, '/d', 4)
        self.gives('unpack /d', '', '#pack\nfile 52 a\n', user=4)

    def test_no_space(self):
        self.files = new_files(64, 64)
        text = '#pack\n' + ''.join(f'file 7 {name}\n|{name * 400}\n' for name in 'abcdefg')
        shown, told, code = self.run_tool('unpack /', text)
        self.assertEqual((shown, set(told.splitlines()), code), ('', {'unpack: no space'}, 1))
        self.assertEqual({row[1] for row in tree_of(self.files)}, {7})

    def test_by_chance(self):
        for seed in range(30):
            chance = random.Random(seed)
            tree = self.some_tree(chance)
            text = ''.join(line + '\n' for line in [PACK_MARK] + pack_lines(tree))
            self.files = new_files(64, 900, 100)
            self.gives('unpack /', '', text)
            self.assertEqual(tree_of(self.files), tree)
            self.gives('pack /', text)

    def some_tree(self, chance, depth=0):
        rows = []
        for name in sorted(chance.sample(('a', 'b b', 'c', '|', '#pack', 'file'), chance.randint(0, 4))):
            if chance.random() < 0.4 and depth < 3:
                rows.append((name, chance.randint(0, 63), 0, ('folder', self.some_tree(chance, depth + 1))))
            elif chance.random() < 0.2:
                rows.append((name, 61, 0, ('link', chance.choice(('a', '../x', '|')))))
            else:
                text = ''.join(chance.choices('ab|\n #', k=chance.choice((0, 5, 300))))
                rows.append((name, chance.randint(0, 63), 0, text))
        return tuple(rows)


class ToolTest(unittest.TestCase):
    def test_names(self):
        for name in NAMES:
            self.assertTrue(is_tool(name))
            self.assertEqual(make_tool([name]).words, [name])
        for name in ('', 'Cut', 'packs'):
            self.assertFalse(is_tool(name))
        words = ['cut', '-c', '1', '/a']
        self.assertEqual(make_tool(words).words, words)


if __name__ == '__main__':
    unittest.main()
