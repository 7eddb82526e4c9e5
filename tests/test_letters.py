import unittest
import zlib

from hoststack.errors import FileError
from hoststack.letters import LETTERS, check_text, letter_at, letter_number, number_of_pair, numbers_of
from hoststack.letters import pair, text_of, word_sum
from tests.helpers import word_of

PRINTABLE = [chr(code) for code in range(32, 127) if chr(code) != '%']


class LettersTest(unittest.TestCase):
    def test_letters_in_order(self):
        self.assertEqual(LETTERS, '\n' + ''.join(PRINTABLE))
        self.assertEqual(len(LETTERS), 95)

    def test_each_letter_there_and_back(self):
        for number, letter in enumerate(['\n'] + PRINTABLE):
            self.assertEqual(letter_number(letter), number)
            self.assertEqual(letter_at(number), letter)

    def test_other_characters_are_refused(self):
        for letter in ('%', '\t', '\r', '\x00', '\x7f', '\x80', '\xe9', '\u20ac', ''):
            self.assertEqual(word_of(lambda: letter_number(letter)), 'bad text', repr(letter))

    def test_other_numbers_are_refused(self):
        for number in (-95, -2, -1, 95, 96, 255, 1000):
            self.assertEqual(word_of(lambda: letter_at(number)), 'bad text', number)

    def test_texts(self):
        self.assertEqual(numbers_of('\n !~'), (0, 1, 2, 94))
        self.assertEqual(numbers_of(''), ())
        self.assertEqual(text_of((0, 1, 2, 94)), '\n !~')
        self.assertEqual(text_of([34, 35]), text_of((34, 35)))
        self.assertEqual(text_of(()), '')
        self.assertEqual(text_of(numbers_of(LETTERS)), LETTERS)

    def test_wrong_texts(self):
        for text in ('a%', '%', 'ab\tc', '\xe9'):
            self.assertEqual(word_of(lambda: numbers_of(text)), 'bad text')
            self.assertEqual(word_of(lambda: check_text(text)), 'bad text')
        for numbers in ((1, 95), (-1,), (2, 3, 255)):
            with self.assertRaises(FileError):
                text_of(numbers)

    def test_check_text_returns_the_text(self):
        for text in ('', 'a b\n', LETTERS):
            self.assertEqual(check_text(text), text)


class BytesTest(unittest.TestCase):
    def test_pairs(self):
        for number, found in ((0, (0, 0)), (1, (0, 1)), (255, (0, 255)), (256, (1, 0)), (65535, (255, 255))):
            self.assertEqual(pair(number), found)
            self.assertEqual(number_of_pair(found, 0), number)

    def test_pair_at_a_place(self):
        self.assertEqual(number_of_pair((9, 1, 2, 3), 1), 258)
        self.assertEqual(number_of_pair([9, 1, 2, 3], 2), 515)

    def test_sum_of_nothing(self):
        self.assertEqual(word_sum(()), (0, 0, 0, 1))

    def test_sum_by_hand(self):
        # The first sums are 2, 4 and 7, the second ones 2, 6 and 13.
        self.assertEqual(word_sum((1, 2, 3)), (0, 13, 0, 7))
        self.assertEqual(word_sum([255, 255]), (2, 255 + 1 + 511 - 512, 1, 255))

    def test_sums_wrap(self):
        for many in (256, 257, 300, 5000):
            found = word_sum((255,) * many)
            self.assertEqual(found, tuple(zlib.adler32(bytes([255] * many)).to_bytes(4, 'big')))
        mixed = [(7 * place * place + place) % 256 for place in range(3000)]
        self.assertEqual(word_sum(mixed), tuple(zlib.adler32(bytes(mixed)).to_bytes(4, 'big')))


if __name__ == '__main__':
    unittest.main()
