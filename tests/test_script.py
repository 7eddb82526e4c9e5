"""Scripts: the trees of all commands, what is no script, and every limit."""

import unittest

from hoststack.errors import ShellError
from hoststack.script import assignment, check_depth, parse_script

RESERVED = ('if', 'then', 'elif', 'else', 'fi', 'while', 'do', 'done', 'for', 'in', 'case', 'esac', '{', '}', '!')


def word(text):
    return (('text', text, False),)


def simple(text, *redirects, assignments=()):
    """Return the tree of a simple command of plain words."""
    return ('simple', tuple((name, word(value)) for name, value in assignments), tuple(word(one) for one in text.split()),
            tuple((sign, word(path)) for sign, path in redirects))


def listed(*nodes):
    return ('list', tuple(simple(node) if isinstance(node, str) else node for node in nodes))


A, B, C, D = simple('a'), simple('b'), simple('c'), simple('d')


class ScriptCase(unittest.TestCase):
    def gives(self, script, *nodes):
        self.assertEqual(parse_script(script), listed(*nodes), script)

    def wrong(self, *scripts):
        for script in scripts:
            with self.assertRaises(ShellError, msg=script):
                parse_script(script)


class SimpleTest(ScriptCase):
    def test_words(self):
        self.gives('a', A)
        self.gives(' a  b c   ', simple('a b c'))
        self.gives('a -l /x *.y', simple('a -l /x *.y'))

    def test_assignments(self):
        self.gives('x=1', simple('', assignments=(('x', '1'),)))
        self.gives('x=1 _y2=a=b', simple('', assignments=(('x', '1'), ('_y2', 'a=b'))))
        self.gives('x=1 a b=2', simple('a b=2', assignments=(('x', '1'),)))
        self.gives('a x=1', simple('a x=1'))
        self.gives('1x=2', simple('1x=2'))
        self.gives('=2 x=1', simple('=2 x=1'))
        self.gives('a-b=2', simple('a-b=2'))
        self.gives('x= y=', ('simple', (('x', ()), ('y', ())), (), ()))
        self.gives('x="" y=$z"a"', ('simple', (('x', (('text', '', True),)), ('y', (('name', 'z', False), ('text', 'a', True)))),
                                    (), ()))
        self.gives('x=a"b"$c', ('simple', (('x', (('text', 'a', False), ('text', 'b', True), ('name', 'c', False))),), (), ()))
        for script in ('"x"=1', "x'='1", '\\x=1', '$x=1', '""x=1'):
            self.assertEqual(parse_script(script)[1][0][1], (), script)

    def test_assignment(self):
        self.assertEqual(assignment(word('x=1')), ('x', word('1')))
        self.assertEqual(assignment(word('x=')), ('x', ()))
        self.assertEqual(assignment((('text', 'x=', False), ('name', 'y', True))), ('x', (('name', 'y', True),)))
        self.assertEqual(assignment((('text', 'x==#', False), ('text', 'y', True))), ('x', word('=#') + (('text', 'y', True),)))
        for parts in ((), word('x'), word('=1'), word('1=1'), word('a b=1'), (('text', 'x=1', True),), (('name', 'x', False),),
                      (('text', 'x', False), ('text', '=1', True)), (('name', 'x', False), ('text', '=1', False)),
                      (('status', False),), (('sum', ('int', 1), False),)):
            self.assertIsNone(assignment(parts), parts)

    def test_redirects(self):
        self.gives('a < x > y >> z 2> w', simple('a', ('<', 'x'), ('>', 'y'), ('>>', 'z'), ('2>', 'w')))
        self.gives('a<x>y>>z 2>w', simple('a', ('<', 'x'), ('>', 'y'), ('>>', 'z'), ('2>', 'w')))
        self.gives('> y a < x b', simple('a b', ('>', 'y'), ('<', 'x')))
        self.gives('> y', simple('', ('>', 'y')))
        self.gives('2>y', simple('', ('2>', 'y')))
        self.gives('x=1 > y', simple('', ('>', 'y'), assignments=(('x', '1'),)))
        self.gives('> y x=1 a z=2', simple('a z=2', ('>', 'y'), assignments=(('x', '1'),)))
        self.gives('a2>y', simple('a2', ('>', 'y')))
        self.gives('a 2 > y', simple('a 2', ('>', 'y')))
        self.gives('a 22>y', simple('a 22', ('>', 'y')))
        self.gives('a 1>y', simple('a 1', ('>', 'y')))
        self.gives('a "2">y', ('simple', (), (word('a'), (('text', '2', True),)), (('>', word('y')),)))
        self.gives('a > "b c"$d', ('simple', (), (word('a'),), (('>', (('text', 'b c', True), ('name', 'd', False))),)))
        self.wrong('>', 'a >', 'a > > b', 'a <<b', 'a > ; b', 'a 2>&1', 'a 2>>b', 'a > | b', 'a >&b', 'a > (b)', 'a <>b', 'a >\nb',
                   'a >>>b', 'a > # b')


class ListTest(ScriptCase):
    def test_what_stands_between(self):
        for script in ('a;b', 'a; b', 'a\nb', 'a;\nb', 'a\n\n\nb', '\n\na;\n\nb\n', 'a ; b ;', ' # x\na # y\n# z\n\nb', 'a;#x\nb'):
            self.gives(script, A, B)

    def test_background(self):
        self.gives('a &', ('back', A))
        self.gives('a & b', ('back', A), B)
        self.gives('a&b&', ('back', A), ('back', B))
        self.gives('a &\nb; c &\n', ('back', A), B, ('back', C))
        self.gives('a && b &', ('back', ('and', A, B)))
        self.gives('a | b & c', ('back', ('pipe', (A, B))), C)

    def test_what_is_no_list(self):
        self.wrong('', ' ', '\n', '#', '# a\n', ';', '&', ';a', '&a', 'a;;', 'a;;b', 'a; ;b', 'a & ; b', 'a ;& b', 'a & & b', 'a\n;b',
                   'a\n&', '; ;', ')', 'a)', '(', 'a (', 'a (b)', 'a () b', ';;')


class ChainTest(ScriptCase):
    def test_pipelines(self):
        self.gives('a | b', ('pipe', (A, B)))
        self.gives('a|b|c', ('pipe', (A, B, C)))
        self.gives('a |\n\nb', ('pipe', (A, B)))
        self.gives('a | # x\nb', ('pipe', (A, B)))
        self.gives('a > x | b', ('pipe', (simple('a', ('>', 'x')), B)))
        self.wrong('|', 'a |', '| a', 'a | | b', 'a | ; b', 'a\n| b', 'a | & b', 'a |', 'a | && b', 'a | ! b')

    def test_not(self):
        self.gives('! a', ('not', A))
        self.gives('! a | b', ('not', ('pipe', (A, B))))
        self.gives('! a && ! b', ('and', ('not', A), ('not', B)))
        self.gives('!a', simple('!a'))
        self.gives('a !', simple('a !'))
        self.gives('! (a)', ('not', ('shell', listed(A), ())))
        self.wrong('!', '! ;', '!\na', '! | a', 'a && !', '! &')

    def test_and_and_or(self):
        self.gives('a && b', ('and', A, B))
        self.gives('a||b', ('or', A, B))
        self.gives('a && b || c && d', ('and', ('or', ('and', A, B), C), D))
        self.gives('a || b | c && d', ('and', ('or', A, ('pipe', (B, C))), D))
        self.gives('a &&\n\n b ||\nc', ('or', ('and', A, B), C))
        self.wrong('&&', 'a &&', '&& a', 'a && || b', 'a || ;', 'a ||', 'a\n&& b', 'a &&& b', 'a ||| b', 'a && ) b')


class GroupTest(ScriptCase):
    def test_groups(self):
        self.gives('{ a; }', ('group', listed(A), ()))
        self.gives('{ a & }', ('group', listed(('back', A)), ()))
        self.gives('{\na\nb\n}', ('group', listed(A, B), ()))
        self.gives('{ a; } > x < y', ('group', listed(A), (('>', word('x')), ('<', word('y')))))
        self.gives('{ a; } 2>x', ('group', listed(A), (('2>', word('x')),)))
        self.gives('{ { a; }; }', ('group', listed(('group', listed(A), ())), ()))
        self.gives('{ (a) }', ('group', listed(('shell', listed(A), ())), ()))
        self.gives('{ a;}', ('group', listed(A), ()))
        self.gives('{a }', simple('{a }'))
        self.wrong('{', '{ }', '{ a', '{ a }', '{ a; ', '}', 'a }; }', '{ a; } b', '{ ; }', '{ a; } x=1', '{a; }', '{ a; )')

    def test_shells(self):
        self.gives('(a)', ('shell', listed(A), ()))
        self.gives('(a;b&)', ('shell', listed(A, ('back', B)), ()))
        self.gives('(\na\n)', ('shell', listed(A), ()))
        self.gives('( (a) )', ('shell', listed(('shell', listed(A), ())), ()))
        self.gives('(a })', ('shell', listed(simple('a }')), ()))
        self.gives('((a))', ('shell', listed(('shell', listed(A), ())), ()))
        self.gives('(a)>x', ('shell', listed(A), (('>', word('x')),)))
        self.gives('(a) | (b) && c', ('and', ('pipe', (('shell', listed(A), ()), ('shell', listed(B), ()))), C))
        self.wrong('()', '( )', '(a', '(a))', '((a)', '(a) b', '(;)', '(a;;)', '(a) (b)', '(a) { b; }')


class ChoiceTest(ScriptCase):
    def test_if(self):
        tree = ('if', listed(A), listed(B), None)
        for script in ('if a; then b; fi', 'if a\nthen\nb\nfi', 'if\n\na;\nthen b\n\nfi'):
            self.gives(script, tree)
        self.gives('if a; then b; else c; fi', ('if', listed(A), listed(B), listed(C)))
        self.gives('if a; b; then c & d; fi', ('if', listed(A, B), listed(('back', C), D), None))
        self.gives('if (a) then (b) fi', ('if', listed(('shell', listed(A), ())), listed(('shell', listed(B), ())), None))

    def test_elif(self):
        self.gives('if a; then b; elif c; then d; fi', ('if', listed(A), listed(B), ('if', listed(C), listed(D), None)))
        self.gives('if a; then b; elif c; then d; else a; fi', ('if', listed(A), listed(B), ('if', listed(C), listed(D), listed(A))))
        self.gives('if a; then b; elif c; then d; elif a; then b; fi',
                   ('if', listed(A), listed(B), ('if', listed(C), listed(D), ('if', listed(A), listed(B), None))))
        self.gives('if a; then b; else if c; then d; fi; fi',
                   ('if', listed(A), listed(B), listed(('if', listed(C), listed(D), None))))

    def test_what_is_no_if(self):
        self.wrong('if', 'if a', 'if a; then b', 'if a; fi', 'if then b; fi', 'if a; then fi', 'if a; then b; else fi', 'fi', 'then',
                   'if a then b; fi', 'if a; then b fi', 'if a; then b; fi c', 'if a; then b; fi > x', 'if a; then b; elif c; fi',
                   'if a; then b; else c; else d; fi', 'if a; then b; else c; elif c; then d; fi', 'else', 'elif', 'if; then b; fi',
                   'if a; then; b; fi', 'if a; then b; fi fi')

    def test_while(self):
        tree = ('while', listed(A), listed(B))
        for script in ('while a; do b; done', 'while a\ndo\nb\ndone', 'while\na\ndo b\ndone'):
            self.gives(script, tree)
        self.gives('while a & b; do c; d & done', ('while', listed(('back', A), B), listed(C, ('back', D))))
        self.gives('while a; do b; done | c', ('pipe', (tree, C)))
        self.wrong('while', 'while a', 'while a; do b', 'while do b; done', 'while a; do done', 'while a; done', 'do', 'done',
                   'while a; do b; done > x', 'while a; do b; done c', 'while a do b; done', 'while a; do; b; done')

    def test_for(self):
        tree = ('for', 'x', (word('a'), word('b')), listed(C))
        for script in ('for x in a b; do c; done', 'for x in a b\ndo c\ndone', 'for x in a b;\n\ndo\nc;\ndone',
                       'for x in a b\n\ndo c; done'):
            self.gives(script, tree)
        self.gives('for x in; do c; done', ('for', 'x', (), listed(C)))
        self.gives('for x in\ndo c; done', ('for', 'x', (), listed(C)))
        self.gives('for x in x=1 "$y"; do c; done', ('for', 'x', (word('x=1'), (('name', 'y', True),)), listed(C)))
        self.wrong('for', 'for x', 'for x in', 'for x in a', 'for x in a;', 'for x in a; c; done', 'for x in a do c; done',
                   'for 1 in a; do c; done', 'for "x" in a; do c; done', 'for $x in a; do c; done', 'for x-y in a; do c; done',
                   'for x a; do c; done', 'for x; do c; done', 'for x "in" a; do c; done', 'for x in a > y; do c; done',
                   'for x in a; do done', 'for x in a & do c; done', 'for x in a;; do c; done', 'for x in a; do c; done > y',
                   'for x in (a); do c; done', 'for x in a | b; do c; done', 'for x y in a; do c; done')


class CaseTest(ScriptCase):
    def test_case(self):
        tree = ('case', word('a'), (((word('b'),), listed(C)),))
        for script in ('case a in b) c;; esac', 'case a in (b) c;; esac', 'case a in\nb)\nc\n;;\nesac', 'case a in b) c ;;esac',
                       'case a in (b) c;;\n\nesac', 'case a in\n\n( b ) c; ;; esac', 'case a in # x\nb) # y\nc;; # z\nesac'):
            self.gives(script, tree)
        self.gives('case a in b) c & ;; esac', ('case', word('a'), (((word('b'),), listed(('back', C))),)))
        self.gives('case a in b|c) a; b;; (d | *) c;; esac',
                   ('case', word('a'), (((word('b'), word('c')), listed(A, B)), ((word('d'), word('*')), listed(C)))))
        self.gives('case a in esac', ('case', word('a'), ()))
        self.gives('case "$x"y in "*"?) a;; esac', ('case', (('name', 'x', True), ('text', 'y', False)), (
            (((('text', '*', True), ('text', '?', False)),), listed(A)),)))
        self.gives('case a in b) c;; esac | d', ('pipe', (tree, D)))

    def test_reserved_words_as_words(self):
        for name in RESERVED:
            self.gives(f'case {name} in ({name}) c;; esac', ('case', word(name), (((word(name),), listed(C)),)))
            self.gives(f'case {name} in a|{name}) c;; esac', ('case', word(name), (((word('a'), word(name)), listed(C)),)))
            if name != 'esac':
                self.gives(f'case a in {name}) c;; esac', ('case', word('a'), (((word(name),), listed(C)),)))

    def test_what_is_no_case(self):
        self.wrong('case', 'case a', 'case a in', 'case in b) c;; esac', 'case a b) c;; esac', 'case a in b) c; esac',
                   'case a in b c;; esac', 'case a in b) c;;', 'case a in b) ;; esac', 'case a in ) c;; esac', 'case a in () c;; esac',
                   'case a in b|) c;; esac', 'case a in |b) c;; esac', 'case a in (b c;; esac', 'case a in ((b) c;; esac', 'esac',
                   'case a in b) c;; esac d', 'case a in b) c;; esac > x', 'case a in b) c;;;; esac', 'case a in b)) c;; esac',
                   'case a in b\n) c;; esac', 'case a in b c) d;; esac', 'case a "in" b) c;; esac', 'case a in b) c & d esac',
                   'case a in ;; esac', 'case a in esac) c;; esac', 'case a; in b) c;; esac')


class DefineTest(ScriptCase):
    def test_functions(self):
        for script in ('f() { a; }', 'f ( ) { a; }', 'f()\n{\na\n}', 'f(){ a; }', 'f() # x\n\n{ a\n}'):
            self.gives(script, ('define', 'f', listed(A)))
        self.gives('f() { a; b & }; f', ('define', 'f', listed(A, ('back', B))), simple('f'))
        self.gives('f() { g() { a; }; }', ('define', 'f', listed(('define', 'g', listed(A)))))
        self.gives('f() { a; } | b', ('pipe', (('define', 'f', listed(A)), B)))
        self.gives('echo() { a; }', ('define', 'echo', listed(A)))
        self.wrong('f()', 'f() a', 'f() (a)', 'f() { }', 'f() { a }', 'f() { a;', 'f(', 'f(a) { b; }', 'f() { a; } > x', 'f() { a; } b',
                   '1f() { a; }', 'f-g() { a; }', '"f"() { a; }', '$f() { a; }', 'x=1() { a; }', 'a f() { b; }', 'x=1 f() { a; }',
                   '() { a; }', 'if() { a; }', 'f()() { a; }', '> y f() { a; }')


class ReservedTest(ScriptCase):
    def test_as_ordinary_words(self):
        for name in RESERVED:
            self.gives('a ' + name, simple('a ' + name))
            self.gives('x=1 ' + name, simple(name, assignments=(('x', '1'),)))
            self.gives('> y ' + name, simple(name, ('>', 'y')))
            self.gives('a > ' + name, simple('a', ('>', name)))
            self.gives(f'for x in {name}; do a; done', ('for', 'x', (word(name),), listed(A)))
            self.gives('"' + name + '"', ('simple', (), ((('text', name, True),),), ()))
            self.gives('\\' + name, ('simple', (), ((('text', name[0], True),) + (word(name[1:]) if len(name) > 1 else ()),), ()))
            self.gives(name + 'x', simple(name + 'x'))
            self.gives('x=' + name, simple('', assignments=(('x', name),)))

    def test_where_a_command_begins(self):
        for name in RESERVED:
            self.wrong(name, 'a; ' + name, 'a | ' + name, 'a && ' + name, 'a & ' + name, '(' + name + ')', 'a\n' + name)
            self.wrong('! ' + name, name + ' | a')
        self.gives('! ! a', ('not', ('not', A)))

    def test_names_of_a_for(self):
        for name in ('if', 'then', 'do', 'done', 'in'):
            self.gives(f'for {name} in a; do b; done', ('for', name, (word('a'),), listed(B)))


def nested(first, many, last, inner='a'):
    return first * many + inner + last * many


class LimitTest(ScriptCase):
    def test_four_thousand_characters(self):
        parse_script('a' * 4000)
        parse_script('a' + ' ' * 3998 + 'b')
        parse_script('a #' + 'x' * 3997)
        parse_script('a; ' * 1333 + 'b')
        self.wrong('a' * 4001, 'a' + ' ' * 4000, 'a #' + 'x' * 3998, '\n' * 4000 + 'a')

    def test_twenty_five_commands_within_each_other(self):
        for first, last in (('{ ', '; }'), ('(', ')'), ('if a; then ', '; fi'), ('while ', '; do a; done'), ('f() { ', '; }'),
                            ('for x in; do ', '; done'), ('case a in b) ', ';; esac'), ('if ', '; then a; fi'),
                            ('if a; then b; else ', '; fi'), ('if a; then b; elif c; then ', '; fi'),
                            ('b && { ', '; }'), ('b | (', ')')):
            parse_script(nested(first, 24, last))
            self.wrong(nested(first, 25, last), nested(first, 26, last))
        parse_script('; '.join([nested('{ ', 24, '; }')] * 20))

    def test_twenty_five_nots_and_other_commands_within_each_other(self):
        tree = A
        for many in range(25):
            self.gives('! ' * many + 'a', tree)
            tree = ('not', tree)
        for many in (25, 26, 34, 144, 145, 1900):
            self.wrong('! ' * many + 'a', '! ' * many + 'a | b', '! ' * many + '> x', '! ' * many + 'f() { a; }', '! ' * many)
        for first, last in (('{ ', '; }'), ('(', ')'), ('while ', '; do a; done'), ('for x in; do ', '; done'), ('f() { ', '; }'),
                            ('if a; then b; else ', '; fi'), ('case a in b) ', ';; esac')):
            for around in range(24):
                parse_script('! ' * around + first + '! ' * (23 - around) + 'a' + last)
                self.wrong('! ' * around + first + '! ' * (24 - around) + 'a' + last)
            self.wrong('! ' * 24 + first + 'a' + last)
            parse_script(nested('! ' + first, 12, last))
            self.wrong(nested('! ' + first, 12, last, '! a'), nested('! ' + first, 13, last))

    def test_nots_one_after_another(self):
        mark = '! ' * 24
        for sign in ('; ', '\n', ' && ', ' || ', ' & '):
            parse_script(sign.join([mark + 'a'] * 30))
            self.wrong(sign.join([mark + 'a'] * 29 + [mark + '! a']))
        parse_script(f'if {mark[2:]}a; then {mark[2:]}a; elif {mark[2:]}a; then {mark[2:]}a; else {mark[2:]}a; fi; {mark}a')
        self.gives('! ! a | b | c', ('not', ('not', ('pipe', (A, B, C)))))
        parse_script(mark + 'a | b | c')

    def test_each_script_within_a_word_begins_anew(self):
        parse_script('! ' * 24 + 'a $(' + '! ' * 24 + 'b)')
        self.wrong('a $(' + '! ' * 25 + 'b)', 'a "$(' + '! ' * 25 + 'b)"')
        inner = nested('(', 24, ')')
        parse_script(nested('(', 10, ')', 'a $( ' + inner + ')'))
        self.wrong('a $( ' + nested('(', 25, ')') + ')')

    def test_long_chains_are_no_nesting(self):
        parse_script(' | '.join(['a'] * 900))
        parse_script('if a; then b; ' + 'elif a; then b; ' * 60 + 'fi')

    def test_eight_scripts_within_words(self):
        for quote in ('', '"'):
            first, last = 'a ' + quote + '$(', ')' + quote
            parse_script(nested(first, 8, last))
            self.wrong(nested(first, 9, last), nested(first, 600, last), first * 600)
            for depth in range(9):
                parse_script(nested(first, 8 - depth, last), depth)
                with self.assertRaises(ShellError):
                    parse_script(nested(first, 9 - depth, last), depth)
        for depth in (9, 10, 100):
            with self.assertRaises(ShellError):
                parse_script('a', depth)
        parse_script('a ' + '$(b) ' * 700)
        parse_script('a $(b $(c)) ' + nested('a $(', 8, ')'))
        self.wrong('a $(b $(c)) ' + nested('a $(', 9, ')'))

    def test_sums(self):
        parse_script('a $((1' + '+1' * 99 + '))')
        parse_script('a $((' + '-' * 19 + '1))')
        self.wrong('a $((1' + '+1' * 100 + '))', 'a $((' + '-' * 20 + '1))')

    def test_trees_nested_a_hundred_and_fifty_deep(self):
        # A chain of so many commands has two tuples for the list, one for each "&&", and four for its first command.
        for many, sign in ((144, ' && '), (144, ' || ')):
            parse_script(sign.join(['a'] * (many + 1)))
            self.wrong(sign.join(['a'] * (many + 2)))
        self.wrong('&&'.join(['a'] * 1300), 'if a; then b; ' + 'elif a; then b; ' * 150 + 'fi')

    def test_check_depth(self):
        tree = ()
        for _ in range(149):
            tree = ('a', tree, 1)
        self.assertIs(check_depth(tree), tree)
        with self.assertRaises(ShellError):
            check_depth((tree,))
        for _ in range(5000):
            tree = (tree, 'b')
        with self.assertRaises(ShellError):
            check_depth(tree)
        self.assertEqual(check_depth(()), ())
        wide = tuple(((),) for _ in range(1000))
        self.assertIs(check_depth(wide), wide)


class TupleTest(unittest.TestCase):
    def test_trees_are_tuples(self):
        tree = parse_script('f() { a; }; for x in b "$c"; do case a in b|c) d; ;; esac; done; x=1 a > b; { a; } > b | (c) & '
                            'if a; then b; else c; fi; while ! a && b || c; do d "$(e)" $((1 + -x)) $? $1; done')
        left = [tree]
        while left:
            for part in left.pop():
                self.assertIn(type(part), (tuple, str, bool, int, type(None)))
                if isinstance(part, tuple):
                    left.append(part)


if __name__ == '__main__':
    unittest.main()
