"""Programs as text and as rows."""

import random
import unittest

from hoststack.code import FORMS, assemble, disassemble, plain_lines
from hoststack.errors import CodeError

ALL = '''#code
# each instruction once
start:
  set r0 -5   # a number
  copy r1 r0
  add r2 r1 r0
  sub r2 r1 r0
  mul r2 r1 r0
  div r2 r1 r0
  mod r2 r1 r0
  less r2 r1 r0
  same r2 r1 r0
  load r3 r4
  store r5 r6

  jump start
  jumpif r7 end
  say r0
  ask r0
  fork r0
  wait r0
  exit r0
  grow r0
  pid r0
end:
'''


class LinesTest(unittest.TestCase):
    def test_plain_lines(self):
        self.assertEqual(plain_lines(' a  b \n\n# c\n  \nd#e\n#\nf'), [(1, ['a', 'b']), (5, ['d']), (7, ['f'])])
        for text in ('', '\n', '   ', '#', '# a\n#b\n'):
            self.assertEqual(plain_lines(text), [])


class AssembleTest(unittest.TestCase):
    def wrong(self, *texts):
        for text in texts:
            with self.assertRaises(CodeError):
                assemble(text)

    def test_all_instructions(self):
        rows = assemble(ALL)
        self.assertEqual((len(rows), type(rows)), (20, tuple))
        self.assertEqual([row[0] for row in rows], list(FORMS))
        self.assertEqual(rows[0], ('set', 0, -5))
        self.assertEqual(rows[2], ('add', 2, 1, 0))
        self.assertEqual(rows[11], ('jump', 0))
        self.assertEqual(rows[12], ('jumpif', 7, 20))

    def test_empty_programs(self):
        for text in ('', '\n\n', '#code\n', 'a:\nb:\n'):
            self.assertEqual(assemble(text), ())

    def test_labels(self):
        self.assertEqual(assemble('jump b\na:\nb:\njump a\n'), (('jump', 1), ('jump', 1)))
        self.assertEqual(assemble('r1:\nset:\njumpif r1 r1\njump set'), (('jumpif', 1, 0), ('jump', 0)))
        self.wrong('a:\na:\n', 'a:\nsay r0\na:', 'jump a', 'jumpif r0 a', 'a:\njump b', 'jump a:\na:', ':', 'a :', 'a: b:',
                   'a:\njump A', 'a: say r0', 'jump 0', 'a::')

    def test_a_jumpif_without_a_register(self):
        self.wrong('a:\njumpif a', 'jumpif end\nend:', 'a:\njumpif a\n', 'r1:\njumpif r1', 'a:\njumpif a r0', 'a:\njumpif 0 a')
        self.assertEqual(assemble('a:\njumpif r0 a'), (('jumpif', 0, 0),))

    def test_lines_that_are_none(self):
        self.wrong('a', 'set', 'set r0', 'set r0 1 2', 'set 1 r0', 'SET r0 1', 'say', 'say r0 r1', 'say 1', 'add r0 r1',
                   'add r0 r1 r2 r3', 'add r0 r1 2', 'jump', 'jump r0 a', 'jumpif', 'jumpif r0', 'nothing r0', 'set,r0,1',
                   'say r0;', 'load r0', 'store r0 1', 'copy r0 1', 'pid', 'fork', 'exit 1', 'grow 1', 'wait', 'ask')

    def test_registers_that_are_none(self):
        for name in ('r8', 'r9', 'r10', 'r-1', 'r', 'R0', 'r00', 'r01', '0', 'rx', 'r0,'):
            self.wrong('say ' + name, 'copy r0 ' + name, 'set ' + name + ' 1')
        for number in range(8):
            self.assertEqual(assemble(f'say r{number}'), (('say', number),))

    def test_numbers(self):
        rows = {'0': 0, '-0': 0, '007': 7, '-1': -1, '999999999': 999999999, '2147483647': 2147483647, '-2147483648': -2147483648,
                '0' * 20 + '2147483647': 2147483647, '-' + '0' * 20 + '2147483648': -2147483648, '0' * 5000: 0, '0' * 5000 + '7': 7}
        for text, number in rows.items():
            self.assertEqual(assemble('set r0 ' + text), (('set', 0, number),), text[-20:])
        self.wrong('set r0 x', 'set r0 1x', 'set r0 +1', 'set r0 -', 'set r0 --1', 'set r0 1.5', 'set r0 1-', 'set r0 0x1')

    def test_numbers_that_are_not_of_32_bits(self):
        for text in ('2147483648', '2147483649', '4294967295', '4294967296', '4294967297', '9999999999', '10000000000', '12147483647',
                     '1' + '0' * 20, '9' * 5000, '0' * 5000 + '2147483648', '02147483648'):
            self.wrong('set r0 ' + text, 'say r0\nset r7 ' + text + '\nsay r7')
        self.wrong('set r0 -2147483649', 'set r0 -02147483649', 'set r0 -4294967296', 'set r0 -4294967297', 'set r0 -' + '9' * 5000)

    def test_two_hundred_rows(self):
        self.assertEqual(len(assemble('say r0\n' * 200)), 200)
        self.assertEqual(len(assemble('a:\n# b\n\n' + 'say r0\n' * 200 + 'b:\n')), 200)
        self.wrong('say r0\n' * 201)


class DisassembleTest(unittest.TestCase):
    def test_there_and_back(self):
        for text in (ALL, '', 'a:\njump a', 'jump a\na:', 'jumpif r3 a\nsay r1\na:'):
            rows = assemble(text)
            self.assertEqual(assemble(disassemble(rows)), rows)
            self.assertEqual(disassemble(assemble(disassemble(rows))), disassemble(rows))

    def test_labels_are_named_by_their_places(self):
        self.assertEqual(disassemble(assemble('set r1 -3\nback:\nsay r1\njumpif r1 back\njump on\non:')),
                         'set r1 -3\n1:\nsay r1\njumpif r1 1\njump 4\n4:\n')

    def test_by_chance(self):
        for seed in range(50):
            chance = random.Random(seed)
            many = chance.randint(1, 30)
            rows = []
            for _ in range(many):
                word = chance.choice(list(FORMS))
                values = {'r': lambda: chance.randint(0, 7), 'l': lambda: chance.randint(0, many),
                          'n': lambda: chance.randint(-2 ** 31, 2 ** 31 - 1)}
                rows.append((word, *[values[sign]() for sign in FORMS[word]]))
            self.assertEqual(assemble(disassemble(tuple(rows))), tuple(rows))


if __name__ == '__main__':
    unittest.main()
