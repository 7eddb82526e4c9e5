"""Sums: their words, trees, texts and values."""

import itertools
import random
import unittest

from hoststack.errors import ShellError
from hoststack.sums import number_from, parse_sum, sum_text, sum_value, sum_words

LEAST, GREATEST = -2 ** 31, 2 ** 31 - 1
COMPARISONS = ('<', '<=', '>', '>=', '==', '!=')
LEVELS = {**{sign: 1 for sign in COMPARISONS}, '+': 2, '-': 2, '*': 3, '/': 3, 'mod': 3}
A, B, C = ('name', 'a'), ('name', 'b'), ('name', 'c')


def wrapped(number):
    return (number + 2 ** 31) % 2 ** 32 - 2 ** 31


class WordsTest(unittest.TestCase):
    def test_words(self):
        rows = {'': [], ' \n ': [], '1+2': ['1', '+', '2'], ' a  <=\nb ': ['a', '<=', 'b'], '-(-_x1)': '- ( - _x1 )'.split(),
                'a mod b/c*d': 'a mod b / c * d'.split(), '<===!=>=<>': ['<=', '==', '!=', '>=', '<', '>'],
                '12ab': ['12ab'], '--1': ['-', '-', '1']}
        for text, words in rows.items():
            self.assertEqual(sum_words(text), words, text)

    def test_other_characters(self):
        for sign in '"$&\',.:;=?@[\\]^`{|}~#!':
            for text in (sign, 'a + ' + sign, sign + ' 1', '1 ' + sign + ' 2'):
                with self.assertRaises(ShellError, msg=text):
                    sum_words(text)
                with self.assertRaises(ShellError, msg=text):
                    parse_sum(text)


class TreeTest(unittest.TestCase):
    def gives(self, text, tree):
        self.assertEqual(parse_sum(text), tree, text)

    def wrong(self, *texts):
        for text in texts:
            with self.assertRaises(ShellError, msg=text):
                parse_sum(text)

    def test_numbers_and_names(self):
        self.gives('0', ('int', 0))
        self.gives(' 0012 ', ('int', 12))
        self.gives('2147483647', ('int', GREATEST))
        self.gives('000002147483647', ('int', GREATEST))
        self.gives('_', ('name', '_'))
        self.gives('modulo', ('name', 'modulo'))
        self.gives('Mod', ('name', 'Mod'))
        self.gives('a1', ('name', 'a1'))
        self.wrong('2147483648', '9999999999', '10000000000', '9' * 5000, '1' + '0' * 20, '-2147483648')
        self.wrong('1a', '12_', '0x1', 'mod')

    def test_signs_and_brackets(self):
        for sign in LEVELS:
            self.gives('a ' + sign + ' b', ('op', sign, A, B))
            self.gives('a ' + sign + ' b ' + sign + ' c', ('op', sign, ('op', sign, A, B), C))
            self.gives('a ' + sign + ' (b ' + sign + ' c)', ('op', sign, A, ('op', sign, B, C)))
        self.gives('a+b', ('op', '+', A, B))
        self.gives('(a)', A)
        self.gives('((a))', A)

    def test_how_signs_bind(self):
        for one, other in itertools.product(LEVELS, LEVELS):
            tree = ('op', one, A, ('op', other, B, C))
            if LEVELS[one] >= LEVELS[other]:
                tree = ('op', other, ('op', one, A, B), C)
            self.gives('a ' + one + ' b ' + other + ' c', tree)
            self.gives('(a ' + one + ' b) ' + other + ' c', ('op', other, ('op', one, A, B), C))
            self.gives('a ' + one + ' (b ' + other + ' c)', ('op', one, A, ('op', other, B, C)))

    def test_minuses(self):
        self.gives('-a', ('neg', A))
        self.gives('---a', ('neg', ('neg', ('neg', A))))
        self.gives('- 1', ('neg', ('int', 1)))
        self.gives('a - -b', ('op', '-', A, ('neg', B)))
        self.gives('a--b', ('op', '-', A, ('neg', B)))
        self.gives('-(a - b)', ('neg', ('op', '-', A, B)))
        for sign in LEVELS:
            self.gives('-a ' + sign + ' -b', ('op', sign, ('neg', A), ('neg', B)))

    def test_texts_that_are_no_sums(self):
        self.wrong('', ' ', '(', ')', '()', '(a', 'a)', '(a))', '((a)', '+', '-', 'a +', '+ a', 'a b', '1 2', 'a (b)',
                   '(a) b', 'a + * b', 'a < = b', '* a', 'mod a', 'a mod', 'a mod mod b', 'a =', '-', '- -', 'a b +', '$a',
                   'a == ', '<', 'a ! = b', '(a + b')

    def test_two_hundred_words(self):
        self.assertEqual(len(sum_words('-1' + '+1' * 99)), 200)
        parse_sum('-1' + '+1' * 99)
        parse_sum('1' + '+1' * 99)
        self.wrong('1' + '+1' * 100, '-1' + '+1' * 100, '1 ' * 201)
        self.wrong('1 ' * 200)

    def test_nineteen_brackets_and_minuses(self):
        parse_sum('(' * 19 + 'a' + ')' * 19)
        parse_sum('-' * 19 + 'a')
        parse_sum('-(' * 9 + '-a' + ')' * 9)
        parse_sum(' + '.join(['-' * 19 + 'a'] * 9))
        parse_sum(' + '.join(['(' * 19 + 'a' + ')' * 19] * 5))
        parse_sum('(-a) ' + '+ (-a) ' * 35)
        self.wrong('(' * 20 + 'a' + ')' * 20, '-' * 20 + 'a', '-(' * 10 + 'a' + ')' * 10, '(' * 19 + '-a' + ')' * 19)
        parse_sum('-(' * 9 + '(a)' + ')' * 9)
        for before in ('(a) + ', '-a + ', '((a)) * -(b) - '):
            parse_sum(before + '(' * 19 + 'a' + ')' * 19)
            self.wrong(before + '(' * 20 + 'a' + ')' * 20, before + '-' * 20 + 'a')
        self.wrong('-(' * 10 + '(a)' + ')' * 10)


class TextTest(unittest.TestCase):
    def test_texts(self):
        rows = {'1+2': '1 + 2', '((a))': 'a', '(a*b)+c': 'a * b + c', 'a*(b+c)': 'a * (b + c)', 'a-(b-c)': 'a - (b - c)',
                '(a-b)-c': 'a - b - c', '-(a)': '-a', '-(a*b)': '-(a * b)', '(-a)*b': '-a * b', '-(-a)': '--a',
                'a<(b<c)': 'a < (b < c)', '(a<b)<c': 'a < b < c', '(a mod b)/c': 'a mod b / c', 'a mod(b/c)': 'a mod (b / c)',
                '(a<b)+c': '(a < b) + c', '007': '7', '2147483647': '2147483647'}
        for text, found in rows.items():
            self.assertEqual(sum_text(parse_sum(text)), found)

    def test_levels(self):
        tree = parse_sum('a + b')
        self.assertEqual([sum_text(tree, level) for level in (1, 2, 3)], ['a + b', 'a + b', '(a + b)'])
        self.assertEqual(sum_text(parse_sum('a < b'), 2), '(a < b)')
        self.assertEqual(sum_text(A, 3), 'a')

    def test_by_chance_no_bracket_could_go(self):
        chance = random.Random(5)
        for _ in range(300):
            tree = chance_tree(chance, 4)
            text = sum_text(tree)
            self.assertEqual(parse_sum(text), tree, text)
            for place in [place for place, sign in enumerate(text) if sign == '(']:
                end = closing(text, place)
                less = text[:place] + ' ' + text[place + 1:end] + ' ' + text[end + 1:]
                self.assertNotEqual(tree_or_none(less), tree, text)


def closing(text, place):
    within = 0
    for at in range(place, len(text)):
        within += (text[at] == '(') - (text[at] == ')')
        if within == 0:
            return at
    raise AssertionError(text)


def tree_or_none(text):
    try:
        return parse_sum(text)
    except ShellError:
        return None


def chance_tree(chance, depth):
    kind = chance.randrange(5) if depth > 0 else 0
    if kind == 0:
        return chance.choice([('int', chance.choice((0, 1, 7, 12, GREATEST))), A, B, C])
    if kind == 1:
        return ('neg', chance_tree(chance, depth - 1))
    return ('op', chance.choice(list(LEVELS)), chance_tree(chance, depth - 1), chance_tree(chance, depth - 1))


def plain_value(tree, variables):
    """Return the value of a sum, reckoned with numbers of any size and cut to 32 bits after each sign."""
    if tree[0] == 'int':
        return tree[1]
    if tree[0] == 'name':
        return wrapped(int(variables[tree[1]]))
    if tree[0] == 'neg':
        return wrapped(-plain_value(tree[1], variables))
    one, other = plain_value(tree[2], variables), plain_value(tree[3], variables)
    if tree[1] in ('/', 'mod') and other == 0:
        return 0
    return wrapped(int({'+': lambda: one + other, '-': lambda: one - other, '*': lambda: one * other,
                        '/': lambda: one // other, 'mod': lambda: one % other, '<': lambda: one < other,
                        '<=': lambda: one <= other, '>': lambda: one > other, '>=': lambda: one >= other,
                        '==': lambda: one == other, '!=': lambda: one != other}[tree[1]]()))


class ValueTest(unittest.TestCase):
    def value(self, text, **variables):
        return sum_value(parse_sum(text), variables)

    def test_signs(self):
        rows = {'2 + 3': 5, '2 - 3': -1, '2 * 3': 6, '7 / 2': 3, '7 mod 2': 1, '1 < 2': 1, '2 < 2': 0, '2 <= 2': 1,
                '3 <= 2': 0, '3 > 2': 1, '2 > 2': 0, '2 >= 2': 1, '1 >= 2': 0, '2 == 2': 1, '2 == 3': 0, '2 != 3': 1,
                '2 != 2': 0, '-5': -5, '--5': 5, '1 + 2 * 3': 7, '(1 + 2) * 3': 9, '10 - 2 - 3': 5, '1 < 2 < 1': 0}
        for text, value in rows.items():
            self.assertEqual(self.value(text), value, text)

    def test_division_rounds_down(self):
        rows = {('7', '2'): (3, 1), ('-7', '2'): (-4, 1), ('7', '-2'): (-4, -1), ('-7', '-2'): (3, -1), ('6', '3'): (2, 0),
                ('-6', '3'): (-2, 0), ('0', '5'): (0, 0), ('5', '0'): (0, 0), ('-5', '0'): (0, 0), ('0', '0'): (0, 0)}
        for (a, b), (quotient, rest) in rows.items():
            self.assertEqual((self.value('a / b', a=a, b=b), self.value('a mod b', a=a, b=b)), (quotient, rest), (a, b))

    def test_thirty_two_bits(self):
        rows = {'a + 1': LEAST, 'b - 1': GREATEST, '-b': LEAST, 'a * 2': -2, 'b * b': 0, 'a * a': 1, 'b / c': LEAST,
                'b mod c': 0, 'a + 0': GREATEST, 'b + 0': LEAST, 'a - b': -1, 'a + a': -2, 'b + b': 0, 'b * c': LEAST,
                'a * c': -GREATEST, 'b < a': 1, 'a + 1 < a': 1, '-2147483647 - 1': LEAST, '-2147483647 - 2': GREATEST}
        for text, value in rows.items():
            self.assertEqual(self.value(text, a=str(GREATEST), b=str(LEAST), c='-1'), value, text)

    def test_names(self):
        rows = {'5': 5, '-5': -5, '007': 7, '-0': 0, '2147483647': GREATEST, '2147483648': LEAST, '4294967296': 0,
                '-2147483649': GREATEST, '999999999999': wrapped(999999999999), '-999999999999': wrapped(-999999999999),
                '000000000012': 12, '9999999999999': 0, '0000000000001': 0, '-9999999999999': 0, '': 0, '-': 0, ' 5': 0,
                '5 ': 0, '5\n': 0, 'x': 0, '5x': 0, '--5': 0, '+5': 0, '1.5': 0, '1 2': 0, 'a': 0}
        for text, value in rows.items():
            self.assertEqual(number_from(text), value, text)
            self.assertEqual(self.value('n', n=text), value, text)
            self.assertEqual(self.value('n + 1', n=text), value + 1 if value < GREATEST else LEAST, text)
        self.assertEqual(self.value('none'), 0)
        self.assertEqual(sum_value(('name', 'a'), {'a': 'b', 'b': '3'}), 0)

    def test_by_chance(self):
        chance = random.Random(6)
        for _ in range(500):
            variables = {name: str(chance.choice((0, 1, -1, 2, 10, LEAST, GREATEST, chance.randint(LEAST, GREATEST))))
                         for name in 'abc'}
            tree = chance_tree(chance, 4)
            before = dict(variables)
            self.assertEqual(sum_value(tree, variables), plain_value(tree, variables), (sum_text(tree), variables))
            self.assertEqual(variables, before)


if __name__ == '__main__':
    unittest.main()
