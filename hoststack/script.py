"""Scripts: texts to trees.

("list", nodes), ("and", a, b), ("or", a, b), ("not", a), ("pipe", nodes), ("back", a),
("if", test, then, other or None), ("while", test, body), ("for", name, words, body), ("group", body, redirects),
("shell", body, redirects), ("simple", ((name, word), ..), words, redirects), ("case", word, ((patterns, body), ..)) and
("define", name, body).
A redirect is (sign, word). An "elif" is an "if" as the other one; an "else" is a list.
"""

from hoststack.errors import ShellError
from hoststack.words import MOST_WITHIN, Reader, is_name, plain_text

MOST_LONG = 4000
MOST_COMMANDS = 25
MOST_DEEP = 150
REDIRECTS = ('<', '>', '>>', '2>')
# Reserved words with which no command begins.
INNER_WORDS = ('then', 'elif', 'else', 'fi', 'do', 'done', 'in', 'esac', '}')
RESERVED = ('!', '{', 'if', 'while', 'for', 'case', 'then', 'elif', 'else', 'fi', 'do', 'done', 'in', 'esac', '}')


def assignment(parts):
    """Return (name, word) of a word that assigns, None for another one."""
    if len(parts) == 0 or parts[0][0] != 'text' or parts[0][2]:
        return None
    name, sign, rest = parts[0][1].partition('=')
    if sign == '' or not is_name(name):
        return None
    first = [] if rest == '' else [('text', rest, False)]
    return (name, tuple(first + list(parts[1:])))


class Parser:
    """The tokens of a script, the place in them, and how many commands stand within each other here."""

    def __init__(self, tokens):
        self.tokens = tokens
        self.place = 0
        self.within = 0

    def here(self):
        """Return the class of the next token."""
        return self.tokens[self.place].kind

    def word_here(self):
        """Return the text of the next token if it is a plain word, None for another token."""
        return plain_text(self.tokens[self.place].parts)

    def skip(self):
        """Go on behind a token."""
        self.place = self.place + 1

    def skip_lines(self):
        """Go on behind line ends."""
        while self.here() == '\n':
            self.skip()

    def expect(self, kind):
        """Go on behind a token of a class; raise ShellError for another one."""
        if self.here() != kind:
            raise ShellError('a script lacks ' + kind)
        self.skip()

    def expect_word(self, text):
        """Go on behind a plain word; raise ShellError for another token."""
        if self.word_here() != text:
            raise ShellError('a script lacks ' + text)
        self.skip()

    def take_word(self):
        """Return the parts of a word and go on behind it; raise ShellError for another token."""
        parts = self.tokens[self.place].parts
        self.expect('word')
        return parts

    def take_name(self):
        """Return a name and go on behind it; raise ShellError for another token."""
        name = plain_text(self.take_word())
        if name is None or not is_name(name):
            raise ShellError('a script lacks a name')
        return name

    def enter(self):
        """Go into a command; raise ShellError if too many stand within each other here."""
        self.within = self.within + 1
        if self.within > MOST_COMMANDS:
            raise ShellError('too many commands stand within each other')

    def leave(self):
        """Go out of a command."""
        self.within = self.within - 1

    def begins_command(self):
        """Return True if a command begins here."""
        if self.here() == 'word':
            return self.word_here() not in INNER_WORDS
        return self.here() in REDIRECTS or self.here() == '('

    def commands(self):
        """Return the tree of a list of commands."""
        nodes = []
        is_over = False
        self.skip_lines()
        while self.begins_command() and not is_over:
            node = self.chain()
            nodes.append(('back', node) if self.here() == '&' else node)
            is_over = self.here() not in (';', '&', '\n')
            if not is_over:
                self.skip()
                self.skip_lines()
        if nodes == []:
            raise ShellError('a list has no command')
        return ('list', tuple(nodes))

    def chain(self):
        """Return the tree of pipelines with "&&" and "||" between them, from the left."""
        node = self.pipeline()
        while self.here() in ('&&', '||'):
            word = 'and' if self.here() == '&&' else 'or'
            self.skip()
            self.skip_lines()
            node = (word, node, self.pipeline())
        return node

    def pipeline(self):
        """Return the tree of commands with "|" between them, or of "!" and the pipeline that it stands before."""
        if self.word_here() == '!':
            self.enter()
            self.skip()
            node = ('not', self.pipeline())
            self.leave()
            return node
        nodes = [self.command()]
        while self.here() == '|':
            self.skip()
            self.skip_lines()
            nodes.append(self.command())
        return nodes[0] if len(nodes) == 1 else ('pipe', tuple(nodes))

    def command(self):
        """Return the tree of a command."""
        self.enter()
        if not self.begins_command() or self.word_here() == '!':
            raise ShellError('a command is missing')
        kind = self.word_here() if self.here() == 'word' else self.here()
        if kind in KINDS:
            action = KINDS[kind]
            node = action(self)
        elif self.here() == 'word' and self.tokens[self.place + 1].kind == '(':
            node = define(self)
        else:
            node = simple(self)
        self.leave()
        return node

    def block(self, first, last):
        """Return the tree of a list between two reserved words."""
        self.expect_word(first)
        tree = self.commands()
        self.expect_word(last)
        return tree

    def redirects(self):
        """Return the redirects that stand here."""
        found = []
        while self.here() in REDIRECTS:
            found.append(self.redirect())
        return tuple(found)

    def redirect(self):
        """Return the redirect that stands here."""
        sign = self.here()
        self.skip()
        return (sign, self.take_word())


def group(parser):
    """Return the tree of "{ list }" with its redirects."""
    body = parser.block('{', '}')
    return ('group', body, parser.redirects())


def subshell(parser):
    """Return the tree of "(list)" with its redirects."""
    parser.skip()
    body = parser.commands()
    parser.expect(')')
    return ('shell', body, parser.redirects())


def choice(parser):
    """Return the tree of "if", made from its last part on."""
    parts = []
    first = 'if'
    while parser.word_here() == first:
        test = parser.block(first, 'then')
        parts.append((test, parser.commands()))
        first = 'elif'
    node = None
    if parser.word_here() == 'else':
        parser.skip()
        node = parser.commands()
    parser.expect_word('fi')
    for test, then in reversed(parts):
        node = ('if', test, then, node)
    return node


def loop(parser):
    """Return the tree of "while"."""
    parser.skip()
    test = parser.commands()
    return ('while', test, parser.block('do', 'done'))


def each(parser):
    """Return the tree of "for"."""
    parser.skip()
    name = parser.take_name()
    parser.expect_word('in')
    words = []
    while parser.here() == 'word':
        words.append(parser.take_word())
    if parser.here() not in (';', '\n'):
        raise ShellError('the words of a for do not end')
    parser.skip()
    parser.skip_lines()
    return ('for', name, tuple(words), parser.block('do', 'done'))


def selection(parser):
    """Return the tree of "case"."""
    parser.skip()
    word = parser.take_word()
    parser.expect_word('in')
    parser.skip_lines()
    rows = []
    while parser.word_here() != 'esac':
        rows.append(case_row(parser))
        parser.skip_lines()
    parser.skip()
    return ('case', word, tuple(rows))


def case_row(parser):
    """Return (patterns, body) of a part of a "case"."""
    if parser.here() == '(':
        parser.skip()
    patterns = [parser.take_word()]
    while parser.here() == '|':
        parser.skip()
        patterns.append(parser.take_word())
    parser.expect(')')
    body = parser.commands()
    parser.expect(';;')
    return (tuple(patterns), body)


def define(parser):
    """Return the tree of a function's definition."""
    name = parser.take_name()
    parser.expect('(')
    parser.expect(')')
    parser.skip_lines()
    return ('define', name, parser.block('{', '}'))


def simple(parser):
    """Return the tree of words with assignments before them and redirects among them."""
    assignments = []
    words = []
    redirects = []
    while parser.here() == 'word' or parser.here() in REDIRECTS:
        if parser.here() != 'word':
            redirects.append(parser.redirect())
        else:
            word = parser.take_word()
            found = assignment(word) if words == [] else None
            if found is None:
                words.append(word)
            else:
                assignments.append(found)
    return ('simple', tuple(assignments), tuple(words), tuple(redirects))


KINDS = {'{': group, '(': subshell, 'if': choice, 'while': loop, 'for': each, 'case': selection}


def tree_of_tokens(tokens):
    """Return the tree of tokens, which are a list of commands."""
    parser = Parser(tokens)
    tree = parser.commands()
    if parser.here() != 'end':
        raise ShellError('a script goes on')
    return tree


def parse_script(text, depth=0):
    """Return the tree of a script; raise ShellError for an invalid one, or one of more than 4000 characters.

    Scripts within words are nested at most 8 deep.
    """
    if len(text) > MOST_LONG or depth > MOST_WITHIN:
        raise ShellError('a script is too long, or stands too deep within words')
    return check_depth(tree_of_tokens(Reader(text, depth, tree_of_tokens).read_tokens(False)))


def check_depth(tree):
    """Return a tree; raise ShellError if tuples within it are nested more than 150 deep."""
    level = 0
    rows = [tree]
    while rows != []:
        level = level + 1
        if level > MOST_DEEP:
            raise ShellError('a script is nested too deeply')
        below = []
        for row in rows:
            below.extend([part for part in row if isinstance(part, tuple)])
        rows = below
    return tree
