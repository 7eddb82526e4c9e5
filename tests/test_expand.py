"""Expanding: words to fields, patterns, and the paths that they match."""

import itertools
import random
import unittest

from hoststack.expand import Expansion, closed, is_pattern, is_there, matches, matching_paths, moved
from hoststack.names import change_mode
from hoststack.script import parse_script
from tests.helpers import FilesCase


def words_of(script):
    """Return the words of a script of one simple command."""
    return parse_script(script)[1][0][2]


def letters(text, quoted=''):
    """Return the letters of a text, quoted where another text has a "q"."""
    return tuple((letter, quoted[place:place + 1] == 'q') for place, letter in enumerate(text))


def no_names(pattern):
    return []


def expanded(script, variables=None, code=0, splits=True, names=no_names, outputs=()):
    """Return the expansion of the words of a script, whose scripts give outputs."""
    expansion = Expansion(words_of(script), splits)
    left = list(outputs)
    while not expansion.is_done():
        part = expansion.next_script()
        if part is None:
            expansion.go(variables or {}, code, names)
        else:
            assert part[0] == 'list', part
            expansion.add(left.pop(0), part == parse_script('quoted'), True)
    assert left == []
    return expansion


class ExpansionTest(unittest.TestCase):
    def gives(self, script, *fields, **more):
        self.assertEqual(expanded(script, **more).fields, list(fields), script)

    def test_plain_words(self):
        self.gives('a b c', 'a', 'b', 'c')
        self.gives('a"b c"\'d\'\\e', 'ab cde')
        self.gives('"a b" c', 'a b', 'c')
        self.gives('a } {', 'a', '}', '{')

    def test_empty_words(self):
        self.gives('""', '')
        self.gives('"" \'\' a', '', '', 'a')
        self.gives('$x')
        self.gives('a $x b', 'a', 'b')
        self.gives('"$x"', '')
        self.gives('$x""', '')
        self.gives('""$x', '')
        self.gives('$x$y')
        self.gives('$x', variables={'x': ''})
        self.gives('$x', variables={'x': ' \n '})
        self.gives('"$x"', ' \n ', variables={'x': ' \n '})
        self.gives('""$x', '', variables={'x': ' '})

    def test_variables(self):
        variables = {'x': 'one', 'y': 'two words', 'z': ' a\n b  ', '1': 'first', '#': '3'}
        self.gives('$x', 'one', variables=variables)
        self.gives('a${x}b', 'aoneb', variables=variables)
        self.gives('$y', 'two', 'words', variables=variables)
        self.gives('"$y"', 'two words', variables=variables)
        self.gives('a$y-b', 'atwo', 'words-b', variables=variables)
        self.gives('$z', 'a', 'b', variables=variables)
        self.gives('"$z"', ' a\n b  ', variables=variables)
        self.gives('x$z', 'x', 'a', 'b', variables=variables)
        self.gives('${z}x', 'a', 'b', 'x', variables=variables)
        self.gives('x${z}y', 'x', 'a', 'b', 'y', variables=variables)
        self.gives('"q "$y" q"', 'q two', 'words q', variables=variables)
        self.gives('$y$y', 'two', 'wordstwo', 'words', variables=variables)
        self.gives('$1 $2 $#', 'first', '3', variables=variables)
        self.gives('$#', '0')

    def test_what_is_put_in_is_not_read_again(self):
        variables = {'x': '$y "a b" \\ \'', 'y': '1'}
        self.gives('$x', '$y', '"a', 'b"', '\\', "'", variables=variables)
        self.gives('"$x"', variables['x'], variables=variables)

    def test_codes_and_sums(self):
        self.gives('$? "$?"x', '7', '7x', code=7)
        self.gives('$((1 + 2))', '3')
        self.gives('a$((0 - 5))b', 'a-5b')
        self.gives('$((n * n)) $((none)) $((n / none))', '144', '0', '0', variables={'n': '12'})
        self.gives('"$((2147483647 + 1))"', '-2147483648')

    def test_outputs(self):
        self.gives('$(plain)', 'a', 'b', outputs=['a b'])
        self.gives('"$(quoted)"', 'a b\nc', outputs=['a b\nc'])
        self.gives('x$(plain)y', 'xa', 'by', outputs=['a\nb'])
        self.gives('$(plain)$(plain)', 'ab', outputs=['a', 'b'])
        self.gives('$(plain)', outputs=[''])
        self.gives('"$(quoted)"', '', outputs=[''])
        self.gives('$(plain) b', 'b', outputs=['\n'])

    def test_scripts_are_asked_for_in_order(self):
        expansion = Expansion(words_of('a$(b)"$(c)"'), True)
        self.assertIsNone(expansion.next_script())
        expansion.go({}, 0, no_names)
        self.assertEqual(expansion.next_script(), parse_script('b'))
        self.assertEqual(expansion.next_script(), parse_script('b'))
        expansion.add('x y', False, True)
        self.assertEqual(expansion.next_script(), parse_script('c'))
        expansion.add(' z', True, True)
        self.assertIsNone(expansion.next_script())
        self.assertFalse(expansion.is_done())
        expansion.go({}, 0, no_names)
        self.assertTrue(expansion.is_done())
        self.assertIsNone(expansion.next_script())
        self.assertEqual(expansion.fields, ['ax', 'y z'])

    def test_add(self):
        for quoted, splits, whole, fields in ((False, True, True, ['a', 'b']), (True, True, True, ['a b']), (False, False, True, ['a b']),
                                              (False, True, False, ['a b']), (True, False, False, ['a b'])):
            expansion = Expansion(words_of('$x'), whole)
            expansion.add('a b', quoted, splits)
            expansion.go({}, 0, no_names)
            self.assertEqual((expansion.fields, expansion.is_done()), (fields, True))

    def test_without_splitting(self):
        variables = {'y': 'two  words', 'e': '', 's': '*'}
        self.gives('$y a$y $e "" $s', 'two  words', 'atwo  words', '', '', '*', variables=variables, splits=False, names=lambda row: ['x'])
        self.gives('$(plain)', ' a\nb ', outputs=[' a\nb '], splits=False)
        expansion = Expansion([()], False)
        expansion.go({}, 0, no_names)
        self.assertEqual(expansion.fields, [''])

    def test_a_script_s_own_text_is_not_split(self):
        expansion = Expansion([(('text', 'a b', False), ('name', 'x', False))], True)
        while not expansion.is_done():
            expansion.go({'x': ' c'}, 0, no_names)
        self.assertEqual(expansion.fields, ['a b', 'c'])

    def test_words_that_have_no_part(self):
        expansion = Expansion([()], True)
        expansion.go({}, 0, no_names)
        self.assertEqual((expansion.fields, expansion.is_done()), ([], True))
        self.assertTrue(Expansion([], True).is_done())

    def test_patterns(self):
        asked = []

        def names(pattern):
            asked.append(''.join(letter for letter, quoted in pattern))
            return ['p1', 'p2'] if pattern[0][0] == 'p' else []

        self.gives('a p* n? "p*" \\*p p\\? $x', 'a', 'p1', 'p2', 'n?', 'p*', '*p', 'p?', 'p1', 'p2', 'y', 'p1', 'p2', 'nx*',
                   names=names, variables={'x': 'p? y p* nx*'})
        self.assertEqual(asked, ['p*', 'n?', 'p?', 'p*', 'nx*'])
        self.gives('"$x" p"*" ""p', 'p*', 'p*', 'p', names=names, variables={'x': 'p*'})
        self.gives('p"a"*', 'p1', 'p2', names=lambda pattern: ('p1', 'p2'))
        self.assertEqual(expanded('p"*"?', names=names).rows, [(('p', False), ('*', True), ('?', False))])

    def test_fields_of_an_expansion(self):
        words = words_of('a $x')
        expansion = Expansion(words, True)
        self.assertEqual((expansion.words, expansion.fields, expansion.rows), (list(words), [], []))
        self.assertEqual(expanded('a"b"', splits=False).rows, [(('a', False), ('b', True))])
        self.assertEqual(len(expanded('$x c', variables={'x': 'a b'}).rows), 3)


class MatchTest(unittest.TestCase):
    def test_is_pattern(self):
        for row in (letters('*'), letters('a?'), letters('*a*', 'q')):
            self.assertIs(is_pattern(row), True)
        for row in ((), letters('abc'), letters('*', 'q'), letters('a?', ' q'), letters('[a]+.')):
            self.assertIs(is_pattern(row), False)

    def test_matches(self):
        yes = {'': ('', '*', '**'), 'a': ('a', '?', '*', 'a*', '*a', '?*', '*?', '**?**'), 'abc': ('abc', 'a*', '*c', 'a*c', '*b*', '???', '?*?', 'a?c'),
               '*': ('*', '?'), 'aXbXc': ('*X*', 'a*X?', '*X*X*', 'a*c'), 'aab': ('*ab', 'a*b', '*a?')}
        for text, patterns in yes.items():
            for pattern in patterns:
                self.assertIs(matches(text, letters(pattern)), True, (text, pattern))
        no = {'': ('?', 'a', '*a', '?*'), 'a': ('', 'b', '??', 'a?', 'ab', 'A'), 'abc': ('ab', 'bc', '*b', 'b*', '????', 'a*b', '*d*', 'a?'),
              'a\nb': ('a?c', 'a b')}
        for text, patterns in no.items():
            for pattern in patterns:
                self.assertIs(matches(text, letters(pattern)), False, (text, pattern))

    def test_quoted(self):
        self.assertTrue(matches('*', letters('*', 'q')))
        self.assertFalse(matches('a', letters('*', 'q')))
        self.assertFalse(matches('', letters('*', 'q')))
        self.assertFalse(matches('ab', letters('a?', ' q')))
        self.assertTrue(matches('a?', letters('a?', ' q')))
        self.assertTrue(matches('a*bc', letters('a**', ' q ')))
        self.assertFalse(matches('abc', letters('a**', ' q ')))

    def test_by_chance(self):
        def plain(text, pattern):
            if pattern == '':
                return text == ''
            if pattern[0] == '*':
                return any(plain(text[place:], pattern[1:]) for place in range(len(text) + 1))
            return text != '' and pattern[0] in ('?', text[0]) and plain(text[1:], pattern[1:])

        for many in range(5):
            for pattern in itertools.product('ab?*', repeat=many):
                for long in range(5):
                    text = ''.join(random.Random(f'{pattern}{long}').choices('ab', k=long))
                    self.assertEqual(matches(text, letters(''.join(pattern))), plain(text, ''.join(pattern)))

    def test_long_ones_end_soon(self):
        self.assertFalse(matches('a' * 200, letters('*a' * 60 + 'b')))
        self.assertTrue(matches('a' * 200, letters('*a' * 60)))

    def test_places(self):
        row = letters('a**b?')
        self.assertEqual(closed([0], row), [0])
        self.assertEqual(sorted(closed([1], row)), [1, 2, 3])
        self.assertEqual(sorted(closed([0, 2], row)), [0, 2, 3])
        self.assertEqual(sorted(closed([5], row)), [5])
        self.assertEqual(sorted(closed([1, 2], row)), [1, 2, 3])
        self.assertEqual(sorted(moved([0, 1, 3], 'a', row)), [1, 1])
        self.assertEqual(moved([3, 4, 5], 'b', row), [4, 5])
        self.assertEqual(moved([5], 'b', row), [])
        self.assertEqual(moved([0], '*', letters('*', 'q')), [1])
        for found in (closed([], row), moved([], 'a', row)):
            self.assertEqual(found, [])


class PathsTest(FilesCase):
    def setUp(self):
        super().setUp()
        for path in ('/d', '/d/e', '/d/e2', '/.h', '/x'):
            self.files.make_folder(path)
        for path in ('/a', '/ab', '/b', '/.a', '/d/a', '/d/.b', '/d/e/f', '/d/e2/f', '/d/e2/g', '/.h/i', '/a*'):
            self.files.create(path)
        self.files.make_link('/ld', 'd')
        self.files.make_link('/lost', 'nowhere')

    def paths(self, text, quoted='', folder=1, user=0):
        found = matching_paths(self.files, folder, user, letters(text, quoted))
        self.assertIsInstance(found, list)
        return found

    def test_names(self):
        self.assertEqual(self.paths('*'), ['a', 'a*', 'ab', 'b', 'd', 'ld', 'lost', 'x'])
        self.assertEqual(self.paths('a*'), ['a', 'a*', 'ab'])
        self.assertEqual(self.paths('?'), ['a', 'b', 'd', 'x'])
        self.assertEqual(self.paths('??'), ['a*', 'ab', 'ld'])
        self.assertEqual(self.paths('c*'), [])
        self.assertEqual(self.paths('a**', ' q'), ['a*'])
        self.assertEqual(self.paths('*'), sorted(self.paths('*')))

    def test_names_with_a_point(self):
        self.assertEqual(self.paths('.*'), ['.a', '.h'])
        self.assertEqual(self.paths('.?'), ['.a', '.h'])
        self.assertEqual(self.paths('?a'), [])
        self.assertEqual(self.paths('*a'), ['a'])
        self.assertEqual(self.paths('.*', 'q'), ['.a', '.h'])
        self.assertEqual(self.paths('.*/*'), ['.h/i'])
        self.assertEqual(self.paths('d/*'), ['d/a', 'd/e', 'd/e2'])
        self.assertEqual(self.paths('d/.*'), ['d/.b'])

    def test_through_folders(self):
        self.assertEqual(self.paths('/*'), ['/a', '/a*', '/ab', '/b', '/d', '/ld', '/lost', '/x'])
        self.assertEqual(self.paths('d/e*/f'), ['d/e/f', 'd/e2/f'])
        self.assertEqual(self.paths('d/e*/g'), ['d/e2/g'])
        self.assertEqual(self.paths('*/e/f'), ['d/e/f', 'ld/e/f'])
        self.assertEqual(self.paths('*/*/*'), ['d/e/f', 'd/e2/f', 'd/e2/g', 'ld/e/f', 'ld/e2/f', 'ld/e2/g'])
        self.assertEqual(self.paths('*/a'), ['d/a', 'ld/a'])
        self.assertEqual(self.paths('./d/?'), ['./d/a', './d/e'])
        self.assertEqual(self.paths('d/../?'), ['d/../a', 'd/../b', 'd/../d', 'd/../x'])
        self.assertEqual(self.paths('../?', folder=self.files.resolve('/d')), ['../a', '../b', '../d', '../x'])
        self.assertEqual(self.paths('e*', folder=self.files.resolve('/d')), ['e', 'e2'])
        self.assertEqual(self.paths('/d/e?/*'), ['/d/e2/f', '/d/e2/g'])
        self.assertEqual(self.paths('a/*'), [])
        self.assertEqual(self.paths('none/*'), [])
        self.assertEqual(self.paths('*/none'), [])

    def test_signs_between(self):
        self.assertEqual(self.paths('*/'), ['d/', 'ld/', 'x/'])
        self.assertEqual(self.paths('d//e?'), ['d//e2'])
        self.assertEqual(self.paths('//d///?'), ['//d///a', '//d///e'])
        self.assertEqual(self.paths('d/?//'), ['d/e//'])
        self.assertEqual(self.paths('d/?', ' q '), ['d/a', 'd/e'])
        self.assertEqual(self.paths('?/.'), ['d/.', 'x/.'])
        self.assertEqual(self.paths('?/..'), ['d/..', 'x/..'])

    def test_rights(self):
        change_mode(self.files, '/d', 61 - 4)
        self.assertEqual(self.paths('d/*', user=3), [])
        self.assertEqual(self.paths('d/e/*', user=3), ['d/e/f'])
        change_mode(self.files, '/d', 61 - 1)
        self.assertEqual(self.paths('d/*', user=3), ['d/a', 'd/e', 'd/e2'])
        self.assertEqual(self.paths('d/*/f', user=3), [])
        self.assertEqual(self.paths('d/e/*', user=3), [])
        self.assertEqual(self.paths('?/a', user=3), [])
        self.assertEqual(self.paths('d/*/f'), ['d/e/f', 'd/e2/f'])

    def test_is_there(self):
        self.assertIs(is_there(self.files, 1, 0, 'd/e'), True)
        self.assertIs(is_there(self.files, self.files.resolve('/d'), 0, 'e/f'), True)
        self.assertIs(is_there(self.files, 1, 0, 'lost'), True)
        for path in ('none', 'a/', 'lost/', 'd/e/f/g', '/e'):
            self.assertIs(is_there(self.files, 1, 0, path), False)
        change_mode(self.files, '/d', 48)
        self.assertEqual([is_there(self.files, 1, user, 'd/e') for user in (0, 3)], [True, False])


if __name__ == '__main__':
    unittest.main()
