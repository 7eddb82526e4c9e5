"""Sums: arithmetic within words: numbers, names, + - * / mod, comparisons, a minus, and brackets."""

from hoststack.code import number_in, wrapped
from hoststack.errors import ShellError
from hoststack.letters import is_name_letter

MOST_WORDS = 200
MOST_BRACKETS = 19
MOST_VARIABLE_DIGITS = 12
LONG_SIGNS = ('<=', '>=', '==', '!=')
SHORT_SIGNS = ('<', '>', '+', '-', '*', '/', '(', ')')
# How tightly signs bind; what has no sign between two sums binds most tightly.
LEVELS = {'<': 1, '<=': 1, '>': 1, '>=': 1, '==': 1, '!=': 1, '+': 2, '-': 2, '*': 3, '/': 3, 'mod': 3}
TIGHTEST = 4


def sum_words(text):
    """Return the words of a sum's text; raise ShellError for other characters."""
    found = []
    place = 0
    while place < len(text):
        end = place + 1
        if text[place] not in (' ', '\n'):
            end = word_end(text, place)
            found.append(text[place:end])
        place = end
    return found


def word_end(text, start):
    """Return the place behind a word of a sum's text."""
    if text[start:start + 2] in LONG_SIGNS:
        return start + 2
    if text[start] in SHORT_SIGNS:
        return start + 1
    place = start
    while place < len(text) and is_name_letter(text[place]):
        place = place + 1
    if place == start:
        raise ShellError('no sum')
    return place


class SumParser:
    """The words of a sum, the place in them, and how many brackets and minuses stand around it."""

    def __init__(self, words):
        self.words = words + ['']
        self.place = 0
        self.within = 0

    def here(self):
        """Return the next word, "" at the end."""
        return self.words[self.place]

    def level_tree(self, level):
        """Return the tree of signs that bind at least as tightly as a level."""
        if level == TIGHTEST:
            return self.tight_tree()
        tree = self.level_tree(level + 1)
        while LEVELS.get(self.here(), 0) == level:
            sign = self.here()
            self.place = self.place + 1
            tree = ('op', sign, tree, self.level_tree(level + 1))
        return tree

    def tight_tree(self):
        """Return the tree of a number, a name, a minus with what it stands before, or a sum in brackets."""
        word = self.here()
        if word == '':
            raise ShellError('a sum ends too early')
        self.place = self.place + 1
        if word not in ('-', '('):
            return plain_tree(word)
        self.within = self.within + 1
        if self.within > MOST_BRACKETS:
            raise ShellError('a sum is nested too deeply')
        tree = ('neg', self.tight_tree()) if word == '-' else self.bracket_tree()
        self.within = self.within - 1
        return tree

    def bracket_tree(self):
        """Return the tree of a sum behind its first bracket, and go on behind its last one."""
        tree = self.level_tree(1)
        if self.here() != ')':
            raise ShellError('a bracket of a sum is not closed')
        self.place = self.place + 1
        return tree


def plain_tree(word):
    """Return the tree of a number or a name."""
    if word[0].isdigit():
        return ('int', plain_number(word))
    if word in LEVELS or not is_name_letter(word[0]):
        raise ShellError('a sum lacks a number')
    return ('name', word)


def plain_number(word):
    """Return the number of a word that begins with a digit; raise ShellError if it is none, or too large."""
    number = number_in(word)
    if number is None:
        raise ShellError('no number, or one that is too large')
    return number


def parse_sum(text):
    """Return the tree of a sum; raise ShellError for another text, or more than 200 words."""
    words = sum_words(text)
    if len(words) > MOST_WORDS:
        raise ShellError('a sum is too long')
    parser = SumParser(words)
    tree = parser.level_tree(1)
    if parser.here() != '':
        raise ShellError('a sum goes on')
    return tree


def sum_text(tree, level=1):
    """Return the text of a sum, in brackets if it binds more loosely than a level."""
    if tree[0] == 'neg':
        return '-' + sum_text(tree[1], TIGHTEST)
    if tree[0] != 'op':
        return str(tree[1])
    here = LEVELS[tree[1]]
    text = sum_text(tree[2], here) + ' ' + tree[1] + ' ' + sum_text(tree[3], here + 1)
    return '(' + text + ')' if here < level else text


def number_from(text):
    """Return the number of a variable's text, 0 for a text that is none."""
    digits = text[1:] if text.startswith('-') else text
    if len(digits) > MOST_VARIABLE_DIGITS or not (digits.isascii() and digits.isdigit()):
        return 0
    return wrapped(int(text))


def sum_value(tree, variables):
    """Return the value of a sum, in 32 bits; a division by zero gives 0, a name without a number too."""
    if tree[0] == 'int':
        return wrapped(tree[1])
    if tree[0] == 'name':
        return number_from(variables.get(tree[1], ''))
    if tree[0] == 'neg':
        return wrapped(-sum_value(tree[1], variables))
    return wrapped(sign_value(tree[1], sum_value(tree[2], variables), sum_value(tree[3], variables)))


def sign_value(sign, one, other):
    """Return what a sign makes of two numbers."""
    if sign == '+':
        return one + other
    if sign == '-':
        return one - other
    if sign == '*':
        return one * other
    if sign in ('/', 'mod'):
        return division(sign, one, other)
    return 1 if holds(sign, one, other) else 0


def division(sign, one, other):
    """Return what a division of two numbers gives, 0 for a division by zero."""
    if other == 0:
        return 0
    return one // other if sign == '/' else one % other


def holds(sign, one, other):
    """Return True if a comparison of two numbers holds."""
    if sign == '<':
        return one < other
    if sign == '<=':
        return one <= other
    if sign == '>':
        return one > other
    if sign == '>=':
        return one >= other
    return one == other if sign == '==' else one != other
