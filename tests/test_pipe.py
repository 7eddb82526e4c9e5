"""Pipes: what is given is taken, in order, and never more than the capacity; who waits, and how reads end."""

import random
import unittest

from hoststack.errors import PipeError
from hoststack.pipe import Pipe


def pipe_with(capacity, readers=1, writers=1):
    pipe = Pipe(capacity)
    pipe.readers, pipe.writers = readers, writers
    return pipe


def state(pipe):
    return (pipe.capacity, pipe.text, pipe.readers, pipe.writers, pipe.passed)


class PipeTest(unittest.TestCase):
    def test_fields(self):
        self.assertEqual(state(Pipe(3)), (3, '', 0, 0, 0))

    def test_capacities(self):
        for capacity in (0, -1, -100):
            with self.assertRaises(PipeError):
                Pipe(capacity)
        self.assertEqual(Pipe(1).capacity, 1)

    def test_gives(self):
        pipe = pipe_with(5)
        self.assertEqual(pipe.give('abc'), 3)
        self.assertEqual(state(pipe), (5, 'abc', 1, 1, 3))
        self.assertEqual(pipe.give('defg'), 2)
        self.assertEqual(state(pipe), (5, 'abcde', 1, 1, 5))
        self.assertIsNone(pipe.give('f'))
        self.assertEqual(pipe.give(''), 0)
        self.assertEqual(state(pipe), (5, 'abcde', 1, 1, 5))

    def test_takes(self):
        pipe = pipe_with(5)
        pipe.give('abcde')
        self.assertEqual(pipe.take(0), '')
        self.assertEqual(pipe.take(2), 'ab')
        self.assertEqual(state(pipe), (5, 'cde', 1, 1, 5))
        self.assertEqual(pipe.give('xyz'), 2)
        self.assertEqual(pipe.take(100), 'cdexy')
        self.assertEqual(state(pipe), (5, '', 1, 1, 7))
        self.assertIsNone(pipe.take(1))
        self.assertIsNone(pipe.take(0))

    def test_the_end(self):
        pipe = pipe_with(5)
        pipe.give('ab')
        pipe.writers = 0
        self.assertEqual([pipe.take(1), pipe.take(5), pipe.take(1), pipe.take(1)], ['a', 'b', '', ''])
        self.assertEqual(Pipe(1).take(1), '')

    def test_nobody_reads(self):
        pipe = pipe_with(2)
        pipe.give('ab')
        pipe.readers = 0
        before = state(pipe)
        for text in ('c', '', 'abc'):
            with self.assertRaises(PipeError):
                pipe.give(text)
        self.assertEqual(state(pipe), before)
        with self.assertRaises(PipeError):
            Pipe(1).give('')

    def test_one_character(self):
        pipe = pipe_with(1)
        found = ''
        for letter in 'some text':
            self.assertEqual(pipe.give(letter * 2), 1)
            self.assertIsNone(pipe.give('x'))
            self.assertEqual(pipe.give(''), 0)
            found = found + pipe.take(9)
            self.assertIsNone(pipe.take(1))
        self.assertEqual((found, pipe.passed), ('some text', 9))

    def test_by_chance(self):
        for seed in range(30):
            chance = random.Random(seed)
            pipe = pipe_with(chance.randint(1, 9))
            given, taken = '', ''
            for _ in range(200):
                if chance.random() < 0.5:
                    text = ''.join(chance.choices('abc\n', k=chance.randint(0, 12)))
                    room = pipe.capacity - len(pipe.text)
                    many = pipe.give(text)
                    self.assertEqual(many, None if room == 0 and text else min(room, len(text)))
                    given = given + text[:many or 0]
                else:
                    many = chance.randint(0, 12)
                    text = pipe.take(many)
                    self.assertEqual(text is None, given == taken)
                    self.assertLessEqual(len(text or ''), many)
                    taken = taken + (text or '')
                self.assertEqual(given, taken + pipe.text)
                self.assertLessEqual(len(pipe.text), pipe.capacity)
                self.assertEqual(pipe.passed, len(given))


if __name__ == '__main__':
    unittest.main()
