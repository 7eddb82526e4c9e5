"""Script text: trees as scripts that parse to the same trees."""

import random
import unittest

from hoststack.errors import ShellError
from hoststack.script import parse_script
from hoststack.scripttext import node_text, script_text, word_text
from tests.trees import chance_list, chance_word

SCRIPTS = (
    'a', 'a b  c', 'a;b', 'a & b &', 'x=1', 'x= y="" a', 'a > b < c 2> d >> e', '> b', '> b if', '< if > b then x', 'x=1 fi > b',
    'a | b | c', '! a | b', 'a && b || ! c && d &', '{ a; }', '{ a & } > b', '(a)', '((a))', '( { a; } ) > b | (c)', '! ! a',
    'if a; then b; fi', 'if a; then b; else c; fi', 'if a; then b; elif c; then d; elif e & then f; else g; fi',
    'if a; then b; else if c; then d; fi; fi', 'while a; do b; done', 'for x in a b; do c & done', 'for x in; do c; done',
    'case a in esac', 'case a in b) c;; (d|e) f & ;; esac', 'case in in (esac|in) a;; esac', 'f() { a; }', 'f() { g() { a; }; }',
    'a "b c"\'d\'\\e', 'a "$x"$x${x}y$1$#$?"$?$1"1', 'a "$(b "$(c "d")")"', 'a $( (b) ) "$( (b) )"', 'a $((b); c)', 'a $((1 + 2))',
    'a $(((1 + 2) * -(x - 3) mod y))', 'a ""', 'a ""#b', 'a #b', 'a x""y', 'a "a"""b', 'a "\\"\\$\\\\\\a"', "a '\n'", 'a \\\n', '"a"=b', 'a 2 > b',
    'a "2"> b', '2 2> b', 'if"" a', '\\if', '"if" x', 'a if > b', 'a"$(b &)"', 'a "(" "$( (c; d) )"', "a $( (b '))') )", 'a "$( (b "))" \\)) )"', 'a {b,c} }', '"" a', 'x=#y',
)


class ScriptTextTest(unittest.TestCase):
    def same(self, tree):
        """Check that what is printed of a tree parses to it, and is printed of that again."""
        text = script_text(tree)
        self.assertEqual(parse_script(text), tree, text)
        self.assertEqual(script_text(parse_script(text)), text)

    def test_scripts(self):
        for script in SCRIPTS:
            self.same(parse_script(script))

    def test_by_chance(self):
        long = 0
        for seed in range(1000):
            tree = chance_list(random.Random(seed), seed % 3)
            try:
                parse_script(script_text(tree))
            except ShellError:
                # What is printed may be beyond the limits of texts, trees and scripts within words.
                self.assertGreater(len(script_text(tree)), 1500)
                long = long + 1
                continue
            self.same(tree)
        self.assertLess(long, 250)

    def test_each_at_its_end(self):
        self.assertEqual(script_text(parse_script('a\nb&c')), 'a; b & c;')
        self.assertEqual(script_text(parse_script('a&')), 'a &')
        self.assertEqual(script_text(parse_script('{ a\nb&\n}')), '{ a; b & };')

    def test_nodes(self):
        self.assertEqual(node_text(parse_script('a  b>c')[1][0]), 'a b > c')
        self.assertEqual(node_text(parse_script('a|b')[1][0]), 'a | b')
        self.assertEqual(node_text(parse_script('! (a)')[1][0]), '! ( a; )')
        self.assertEqual(node_text(parse_script('a\nb')), 'a; b;')

    def test_redirects_before_reserved_words(self):
        for script in ('> x if', '> x < y then a > z', '2> e !', '< x }', '> x {'):
            text = node_text(parse_script(script)[1][0])
            self.assertIn(text[0], '<>2', text)
            self.same(parse_script(script))
        self.assertEqual(node_text(parse_script('> x a')[1][0]), 'a > x')

    def test_words(self):
        self.assertEqual(word_text(()), '')
        self.assertEqual(word_text((('text', 'a', False),)), 'a')
        for seed in range(1000):
            word = chance_word(random.Random(seed), 1)
            self.assertEqual(parse_script('a ' + word_text(word))[1][0][2][1], word)
            self.assertEqual(parse_script('a=' + word_text(word))[1][0][1][0][1], word)

    def test_no_bracket_of_a_sum_could_go(self):
        self.assertEqual(word_text(parse_script('$(((1 * (2)) + ((3))))')[1][0][2][0]), '$((1 * 2 + 3))')

    def test_limits_are_kept(self):
        for script in ('{ ' * 24 + 'a' + '; }' * 24, '! ' * 24 + 'a', '! { ' * 12 + 'a' + '; }' * 12,
                       'a $(' * 8 + 'a' + ')' * 8, 'a $((' + '(-' * 9 + '(1)' + ')' * 9 + '))',
                       ' && '.join(['a'] * 145), 'a $((1' + '+1' * 99 + '))'):
            self.same(parse_script(script))


if __name__ == '__main__':
    unittest.main()
