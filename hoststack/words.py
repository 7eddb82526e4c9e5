"""Words: a script's text as tokens, and words as parts that are expanded.

A part is ("text", text, quoted), ("name", name, quoted), ("status", quoted), ("run", script, quoted) or
("sum", tree, quoted).
"""

from hoststack.errors import ShellError
from hoststack.letters import is_name_letter
from hoststack.sums import parse_sum

MOST_WITHIN = 8
# The longer ones first: "&&" is not "&" twice.
OPERATORS = ('&&', '||', ';;', '>>', '2>', ';', '&', '|', '<', '>', '(', ')', '\n')
WORD_ENDS = (' ', '\n', ';', '&', '|', '<', '>', '(', ')', '')
# What a "\" within quotes stands before; before others it is a character.
ESCAPED = ('"', '$', '\\')
ARGUMENTS = ('1', '2', '3', '4', '5', '6', '7', '8', '9', '#')
EMPTY_QUOTED = ('text', '', True)


class Token:
    """A token: an operator, "word" with its parts, or "end"."""

    def __init__(self, kind, parts=()):
        self.kind = kind
        self.parts = parts

    def shown(self):
        """Return (class, parts)."""
        return (self.kind, self.parts)


def plain_text(parts):
    """Return the text of a word of one unquoted text, None for another word."""
    if len(parts) != 1 or parts[0][0] != 'text' or parts[0][2]:
        return None
    return parts[0][1]


def is_name(text):
    """Return True if a text may name a variable."""
    letters = [is_name_letter(letter) for letter in text]
    return letters != [] and False not in letters and not text[0].isdigit()


def joined_texts(parts):
    """Return parts of which neighbouring texts of one sort are one."""
    found = []
    for part in parts:
        if part[0] == 'text' and found != [] and found[-1][0] == 'text' and found[-1][2] == part[2]:
            found[-1] = ('text', found[-1][1] + part[1], part[2])
        else:
            found.append(part)
    return found


def word_of(parts):
    """Return the word of parts as they stand in a script."""
    rows = joined_texts(parts)
    is_needed = not any([part[-1] and part != EMPTY_QUOTED for part in rows])
    kept = []
    for part, following in zip(rows, rows[1:] + [('text', '', False)]):
        # Of texts behind an empty quoted one only an unquoted one is left.
        is_mark = following[0] == 'text' and following[1].startswith('#')
        if part != EMPTY_QUOTED or is_needed or is_mark:
            kept.append(part)
    return tuple(joined_texts(kept))


def sum_end(text, start):
    """Return the place of the "))" that closes a sum, -1 if there is none."""
    within = 0
    for place in range(start, len(text)):
        if text[place] == '(':
            within = within + 1
        elif text[place] == ')':
            if within == 0:
                return place if text[place:place + 2] == '))' else -1
            within = within - 1
    return -1


class Reader:
    """A script's text, the place in it, how deep it stands within words, and what makes a tree of tokens."""

    def __init__(self, text, depth, parse):
        self.text = text
        self.place = 0
        self.depth = depth
        self.parse = parse

    def here(self):
        """Return the next character, "" at the end."""
        return self.text[self.place:self.place + 1]

    def taken(self, many):
        """Return so many characters and go on behind them; raise ShellError if there are fewer."""
        found = self.text[self.place:self.place + many]
        if len(found) < many:
            raise ShellError('a script ends too early')
        self.place = self.place + many
        return found

    def taken_until(self, sign):
        """Return the characters before a sign and go on behind it; raise ShellError if there is none."""
        end = self.text.find(sign, self.place)
        if end < 0:
            raise ShellError('a sign is not closed')
        found = self.text[self.place:end]
        self.place = end + len(sign)
        return found

    def read_tokens(self, is_within):
        """Return the tokens to the text's end, or to the bracket that closes a script within a word."""
        found = []
        brackets = 0
        while True:
            token = self.next_token()
            if token.kind == 'end' and is_within:
                raise ShellError('a bracket is not closed')
            if token.kind == 'end' or (token.kind == ')' and is_within and brackets == 0):
                return found + [Token('end')]
            if token.kind == '(':
                brackets = brackets + 1
            elif token.kind == ')':
                brackets = brackets - 1
            found.append(token)

    def next_token(self):
        """Return the next token."""
        self.skip_blanks()
        if self.here() == '':
            return Token('end')
        for sign in OPERATORS:
            if self.text.startswith(sign, self.place):
                self.place = self.place + len(sign)
                return Token(sign)
        return Token('word', self.read_word())

    def skip_blanks(self):
        """Go on behind blanks and a comment."""
        while self.here() == ' ':
            self.place = self.place + 1
        if self.here() == '#':
            while self.here() not in ('\n', ''):
                self.place = self.place + 1

    def read_word(self):
        """Return the parts of a word."""
        parts = []
        while self.here() not in WORD_ENDS:
            parts.extend(self.read_parts())
        return word_of(parts)

    def read_parts(self):
        """Return the next parts of a word: one, or those within quotes."""
        sign = self.here()
        if sign == '$':
            return [self.dollar_part(False)]
        if sign == '"':
            return self.quoted_parts()
        self.place = self.place + 1
        if sign == "'":
            return [('text', self.taken_until("'"), True)]
        if sign == '\\':
            return [('text', self.taken(1), True)]
        return [('text', sign, False)]

    def quoted_parts(self):
        """Return the parts between two quotes, in which $ and some \\ count."""
        self.place = self.place + 1
        parts = [EMPTY_QUOTED]
        while self.here() != '"':
            if self.here() == '$':
                parts.append(self.dollar_part(True))
            else:
                parts.append(('text', self.quoted_letter(), True))
        self.place = self.place + 1
        return parts

    def quoted_letter(self):
        """Return the next character within quotes."""
        letter = self.taken(1)
        if letter == '\\' and self.here() in ESCAPED:
            return self.taken(1)
        return letter

    def dollar_part(self, quoted):
        """Return the part that begins with the next $."""
        self.place = self.place + 1
        sign = self.here()
        if sign == '(':
            return self.bracket_part(quoted)
        if sign == '{':
            self.place = self.place + 1
            name = self.taken_until('}')
            if not is_name(name):
                raise ShellError('no name')
            return ('name', name, quoted)
        if sign == '?':
            self.place = self.place + 1
            return ('status', quoted)
        if sign in ARGUMENTS:
            return ('name', self.taken(1), quoted)
        return ('name', self.read_name(), quoted)

    def read_name(self):
        """Return the name that stands here; raise ShellError if there is none."""
        start = self.place
        while is_name_letter(self.here()):
            self.place = self.place + 1
        name = self.text[start:self.place]
        if not is_name(name):
            raise ShellError('nothing that is told stands behind $')
        return name

    def bracket_part(self, quoted):
        """Return the part of a sum, or of a script, whose first bracket stands here."""
        if self.text.startswith('((', self.place):
            end = sum_end(self.text, self.place + 2)
            if end >= 0:
                tree = parse_sum(self.text[self.place + 2:end])
                self.place = end + 2
                return ('sum', tree, quoted)
        self.place = self.place + 1
        return ('run', self.read_script(), quoted)

    def read_script(self):
        """Return the tree of the script that stands here within a word."""
        if self.depth == MOST_WITHIN:
            raise ShellError('scripts stand too deep within words')
        self.depth = self.depth + 1
        tokens = self.read_tokens(True)
        self.depth = self.depth - 1
        parse = self.parse
        return parse(tokens)
