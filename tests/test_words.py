"""Words: the parts of words as they stand in scripts, and what ends them."""

import unittest

from hoststack.errors import ShellError
from hoststack.script import parse_script
from hoststack.words import Token, is_name, plain_text


def text(word, quoted=False):
    return ('text', word, quoted)


def words_of(script):
    """Return the words of a script of one simple command."""
    (word, nodes) = parse_script(script)
    assert word == 'list' and len(nodes) == 1 and nodes[0][0] == 'simple' and nodes[0][1] == nodes[0][3] == (), nodes
    return nodes[0][2]


def run(*words):
    """Return the tree of a script of one simple command of plain words."""
    return ('list', (('simple', (), tuple((text(word),) for word in words), ()),))


class WordCase(unittest.TestCase):
    def gives(self, script, *parts):
        """Check the parts of a word that stands in several places."""
        for before, after in (('', ''), (' ', ' '), ('\n', '\n'), ('', ';'), ('', ' # c')):
            self.assertEqual(words_of(before + script + after), (parts,), script)
        self.assertEqual(words_of('a ' + script + ' b'), ((text('a'),), parts, (text('b'),)), script)

    def wrong(self, *scripts):
        for script in scripts:
            with self.assertRaises(ShellError, msg=script):
                parse_script(script)
            with self.assertRaises(ShellError, msg=script):
                parse_script('a ' + script)


class TokenTest(unittest.TestCase):
    def test_shown(self):
        self.assertEqual(Token('end').shown(), ('end', ()))
        self.assertEqual(Token(';').shown(), (';', ()))
        parts = (text('a'), ('name', 'b', True))
        self.assertEqual(Token('word', parts).shown(), ('word', parts))
        self.assertIsInstance(Token('word', parts).shown(), tuple)

    def test_plain_text(self):
        self.assertEqual(plain_text((text('ab'),)), 'ab')
        for parts in ((), (text('ab', True),), (text('a'), text('b', True)), (('name', 'a', False),), (('status', False),),
                      (text('a'), text('b')), (('run', run('a'), False),), (('sum', ('int', 1), False),)):
            self.assertIsNone(plain_text(parts))

    def test_names(self):
        for name in ('a', 'Z', '_', 'a1', '_1', 'REPLY', 'if', 'x' * 50):
            self.assertIs(is_name(name), True, name)
        for name in ('', '1', '1a', 'a b', 'a-b', 'a.', '$a', 'a=', '#', '-', ' a', 'a\n', 'a/b'):
            self.assertIs(is_name(name), False, name)


class PartsTest(WordCase):
    def test_unquoted(self):
        for word in ('a', 'a.b', '/d/f-1', '*.txt', '?', '[x]', 'a=b', '~', '@,:!+^`', 'a#b', '{', '}', 'x{y}', '-l', '2', '0'):
            self.assertEqual(words_of('echo ' + word), ((text('echo'),), (text(word),)))

    def test_single_quotes(self):
        self.gives("'a b'", text('a b', True))
        self.gives("'$x \\ \" ; # \n $('", text('$x \\ " ; # \n $(', True))
        self.gives("a'b'c", text('a'), text('b', True), text('c'))
        self.gives("'a''b'", text('ab', True))
        self.wrong("'", "'a", "a'b", "''a'", "\\''")

    def test_double_quotes(self):
        self.gives('"a b"', text('a b', True))
        self.gives('"a\'b;#\n&|<>()"', text("a'b;#\n&|<>()", True))
        self.gives('"\\" \\$ \\\\"', text('" $ \\', True))
        self.gives('"\\a \\\n \\\' "', text("\\a \\\n \\' ", True))
        self.gives('"$x"', ('name', 'x', True))
        self.gives('"a$x b"', text('a', True), ('name', 'x', True), text(' b', True))
        self.gives('"a""b"', text('ab', True))
        self.gives('"a"\'b\'', text('ab', True))
        self.gives('a"b"c', text('a'), text('b', True), text('c'))
        self.wrong('"', '"a', '"a\\"', '"\\', 'a"', '""a"', '"$x', '"$(a)')

    def test_escapes(self):
        self.gives('\\a', text('a', True))
        self.gives('a\\ b', text('a'), text(' ', True), text('b'))
        self.gives('\\\n', text('\n', True))
        self.gives('\\\\\\$\\"\\\'\\#', text('\\$"\'#', True))
        self.wrong('\\', 'a\\')

    def test_names(self):
        self.gives('$x', ('name', 'x', False))
        self.gives('$x_1y', ('name', 'x_1y', False))
        self.gives('$x-y', ('name', 'x', False), text('-y'))
        self.gives('${x}y', ('name', 'x', False), text('y'))
        self.gives('a$_', text('a'), ('name', '_', False))
        self.gives('$x$y', ('name', 'x', False), ('name', 'y', False))
        self.gives('$x"$x"', ('name', 'x', False), ('name', 'x', True))
        self.gives('$x"y"', ('name', 'x', False), text('y', True))
        self.gives('$if', ('name', 'if', False))

    def test_arguments_and_the_last_code(self):
        for number in '123456789':
            self.gives('$' + number, ('name', number, False))
            self.gives('"$' + number + '0"', ('name', number, True), text('0', True))
        self.gives('$12', ('name', '1', False), text('2'))
        self.gives('$#', ('name', '#', False))
        self.gives('$##', ('name', '#', False), text('#'))
        self.gives('$?', ('status', False))
        self.gives('"$?$?"', ('status', True), ('status', True))
        self.gives('$?x', ('status', False), text('x'))

    def test_what_stands_behind_no_dollar(self):
        self.wrong('$', '$ ', '$0', '$.', '$$', '$*', '$@', '$!', '$-', '$/', '$;', '"$"', '"a$"', '"$ "', '$"a"', "$'a'",
                   '$\n', '$=', '$\\a', '$)', '$%', '$}', '$&')
        self.wrong('${', '${}', '${x', '${1}', '${#}', '${?}', '${x y}', '${x-y}', '${ x}', '${x }', '${$x}', '"${x"', '${x\n}')

    def test_sums(self):
        self.gives('$((1))', ('sum', ('int', 1), False))
        self.gives('"$(( a + 1 ))"', ('sum', ('op', '+', ('name', 'a'), ('int', 1)), True))
        self.gives('$((a\n<b))', ('sum', ('op', '<', ('name', 'a'), ('name', 'b')), False))
        self.gives('$(((a)))', ('sum', ('name', 'a'), False))
        self.gives('$(((1)+(2)))x', ('sum', ('op', '+', ('int', 1), ('int', 2)), False), text('x'))
        self.gives('$((1))$((2))', ('sum', ('int', 1), False), ('sum', ('int', 2), False))
        self.wrong('$(())', '$((1)', '$((1', '$((1 2))', '$(($a))', '$(("1"))', '$((1))) ', '$((1 # ))', '$((a b))',
                   '$((2147483648))', '$((' + '1+' * 100 + '1))', '$((' + '(' * 20 + '1' + ')' * 20 + '))')
        self.gives('$((' + '(' * 19 + '1' + ')' * 19 + '))', ('sum', ('int', 1), False))

    def test_scripts(self):
        self.gives('$(a)', ('run', run('a'), False))
        self.gives('"$(a b)"', ('run', run('a', 'b'), True))
        self.gives('x$(a)y', text('x'), ('run', run('a'), False), text('y'))
        self.gives('$(a;\n)', ('run', run('a'), False))
        self.gives('$(a $(b))', ('run', ('list', (('simple', (), ((text('a'),), (('run', run('b'), False),)), ()),)), False))
        self.gives('"$(a "b c")"', ('run', ('list', (('simple', (), ((text('a'),), (text('b c', True),)), ()),)), True))
        self.gives('"$(a "$(b "$c")")"', ('run', ('list', (('simple', (), ((text('a'),), (
            ('run', ('list', (('simple', (), ((text('b'),), (('name', 'c', True),)), ()),)), True),)), ()),)), True))
        self.wrong('$()', '$( )', '$(a', '$(a;', '$(;)', '$(a;;)', '$(a))', '"$(a"', '$(#)', '$(a |)', '$(if a)')

    def test_brackets_within_scripts(self):
        shell = ('shell', run('a'), ())
        self.gives('$( (a) )', ('run', ('list', (shell,)), False))
        self.gives('$((a) )', ('run', ('list', (shell,)), False))
        self.gives('$((a); b)', ('run', ('list', (shell, run('b')[1][0])), False))
        self.gives('$( (a); (a))', ('run', ('list', (shell, shell)), False))
        self.gives('$(a \')\')', ('run', ('list', (('simple', (), ((text('a'),), (text(')', True),)), ()),)), False))
        self.gives('$(a "(" \\( )', ('run', ('list', (('simple', (), ((text('a'),), (text('(', True),), (text('(', True),)),
                                                       ()),)), False))
        self.gives('$(a # ) it\'s\n)', ('run', run('a'), False))
        self.gives('$(a#b)', ('run', run('a#b'), False))
        self.gives('$(case a in (a) a;; esac)',
                   ('run', ('list', (('case', (text('a'),), ((((text('a'),),), run('a')),)),)), False))
        self.wrong('$(a # )', '$((a)', '$( (a)', '$(case a in a) a;; esac)', '$(a ( )', "$(a ')", '$( (a)))')

    def test_neighbouring_texts(self):
        self.gives('a"b"\'c\'\\d"e"f', text('a'), text('bcde', True), text('f'))
        self.gives('"a$x"\'b\'', text('a', True), ('name', 'x', True), text('b', True))

    def test_empty_quotes(self):
        empty = text('', True)
        for quotes in ('""', "''", '""""', "''\"\""):
            self.gives(quotes, empty)
            self.gives(quotes + 'a', empty, text('a'))
            self.gives('a' + quotes, text('a'), empty)
            self.gives('a' + quotes + 'b', text('a'), empty, text('b'))
            self.gives(quotes + '$x', empty, ('name', 'x', False))
            self.gives(quotes + 'a' + quotes, empty, text('a'), empty)
            self.gives(quotes + '"a"', text('a', True))
            self.gives('"a"' + quotes, text('a', True))
            self.gives('a' + quotes + 'b"c"', text('ab'), text('c', True))
            self.gives('"$x"' + quotes, ('name', 'x', True))
            self.gives('"c"a' + quotes, text('c', True), text('a'))
            self.gives(quotes + '$x"$?"', ('name', 'x', False), ('status', True))
            self.gives(quotes + '"$((1))"', ('sum', ('int', 1), True))
            self.gives(quotes + 'a\\ ', text('a'), text(' ', True))

    def test_empty_quotes_before_a_mark(self):
        empty = text('', True)
        for quotes in ('""', "''"):
            self.gives(quotes + '#', empty, text('#'))
            self.gives(quotes + '#a"b"', empty, text('#a'), text('b', True))
            self.gives(quotes + '#a"$x"', empty, text('#a'), ('name', 'x', True))
            self.gives(quotes + 'a#"b"', text('a#'), text('b', True))
            self.gives('"#"' + quotes, text('#', True))

    def test_what_ends_words(self):
        for sign in (' ', '   ', '\n', ';', '&', '|', '<', '>', '||', '&&', '>>', ' # c\n'):
            tree = str(parse_script('a' + sign + 'b'))
            self.assertIn(str((text('a'),)), tree)
            self.assertIn(str((text('b'),)), tree)

    def test_comments(self):
        self.assertEqual(words_of('a # b $( " \' `'), ((text('a'),),))
        self.assertEqual(words_of('# c\n#\n  # d\na b# c'), ((text('a'),), (text('b#'),), (text('c'),)))
        self.assertEqual(parse_script('a;#b\nc'), ('list', (run('a')[1][0], run('c')[1][0])))
        self.assertEqual(parse_script('a # b\nc'), ('list', (run('a')[1][0], run('c')[1][0])))
        self.assertEqual(parse_script('(#c)\na)'), ('list', (('shell', run('a'), ()),)))
        self.gives('\\#a', text('#', True), text('a'))
        self.gives('$x#a', ('name', 'x', False), text('#a'))


if __name__ == '__main__':
    unittest.main()
