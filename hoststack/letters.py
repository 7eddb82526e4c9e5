"""Letters: the characters that files hold, as numbers."""

from hoststack.errors import FileError

LETTERS = '\n !"#$&\'()*+,-./0123456789:;<=>?@ABCDEFGHIJKLMNOPQRSTUVWXYZ[\\]^_`abcdefghijklmnopqrstuvwxyz{|}~'
SUM_BASE = 65521


def letter_number(letter):
    """Return the number of a character, from 0 for a line end on; raise FileError "bad text" for another one."""
    place = LETTERS.find(letter)
    if place < 0 or letter == '':
        raise FileError('bad text')
    return place


def letter_at(number):
    """Return the character of a number; raise FileError "bad text" if there is none."""
    if not 0 <= number < len(LETTERS):
        raise FileError('bad text')
    return LETTERS[number]


def numbers_of(text):
    """Return the numbers of a text's characters."""
    return tuple([letter_number(letter) for letter in text])


def text_of(numbers):
    """Return the text of numbers."""
    return ''.join([letter_at(number) for number in numbers])


def check_text(text):
    """Return a text; raise FileError "bad text" if files cannot hold it."""
    numbers_of(text)
    return text


def is_name_letter(letter):
    """Return True if a character may stand in a variable's name."""
    return letter == '_' or (letter.isascii() and letter.isalnum())


def pair(number):
    """Return a number from 0 on as two bytes, the higher first."""
    return (number // 256 % 256, number % 256)


def number_of_pair(data, place):
    """Return the number of two bytes at a place."""
    return data[place] * 256 + data[place + 1]


def word_sum(numbers):
    """Return the checksum of bytes as four bytes: two sums by 65521."""
    first = 1
    second = 0
    for number in numbers:
        first = (first + number) % SUM_BASE
        second = (second + first) % SUM_BASE
    return pair(second) + pair(first)
