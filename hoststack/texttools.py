"""Text tools: programs that read files one after another, or descriptor 0, and write what they make of them."""

from hoststack.errors import FileError
from hoststack.tools import LineTool, TextTool, is_number

LINES_WITHOUT_NUMBER = 10


class Head(LineTool):
    """The first lines: no character behind them is read."""

    def __init__(self, words, paths, many):
        LineTool.__init__(self, words, paths)
        self.at_once = 1
        self.many = many
        self.is_over = many == 0

    def take_line(self, line):
        """Say a line; the last one that is wanted ends it all."""
        self.say_line(line)
        self.many = self.many - 1
        self.is_over = self.many == 0


class Tail(LineTool):
    """The last lines."""

    def __init__(self, words, paths, many):
        LineTool.__init__(self, words, paths)
        self.many = many
        self.lines = []
        self.is_over = many == 0

    def take_line(self, line):
        """Keep a line as long as it may be one of the last."""
        self.lines.append(line)
        if len(self.lines) > self.many:
            self.lines.pop(0)

    def end_lines(self):
        """Say the lines."""
        for line in self.lines:
            self.say_line(line)


class Count(TextTool):
    """How many line ends, words and characters there are."""

    def __init__(self, words, paths):
        TextTool.__init__(self, words, paths)
        self.text = ''

    def take(self, text):
        """Keep what was read."""
        self.text = self.text + text

    def finish(self):
        """Say the numbers."""
        numbers = (self.text.count('\n'), len(self.text.split()), len(self.text))
        self.say(' '.join([str(number) for number in numbers]) + '\n')


class Grep(LineTool):
    """The lines with a text, or without it."""

    def __init__(self, words, paths, text, wanted):
        LineTool.__init__(self, words, paths)
        self.text = text
        self.wanted = wanted
        self.is_found = False

    def take_line(self, line):
        """Say a line if it is wanted."""
        if (self.text in line) == self.wanted:
            self.is_found = True
            self.say_line(line)

    def end_lines(self):
        """End with code 1 without a line."""
        if not self.is_found:
            self.code = 1


class Sort(LineTool):
    """The lines in ascending or in falling order."""

    def __init__(self, words, paths, falls):
        LineTool.__init__(self, words, paths)
        self.falls = falls
        self.lines = []

    def take_line(self, line):
        """Keep a line."""
        self.lines.append(line)

    def end_lines(self):
        """Say the lines in order."""
        ordered = sorted(self.lines)
        for line in ordered[::-1] if self.falls else ordered:
            self.say_line(line)


class Uniq(LineTool):
    """Of equal lines one after another the first, perhaps with their number."""

    def __init__(self, words, paths, counts):
        LineTool.__init__(self, words, paths)
        self.counts = counts
        self.line = None
        self.many = 0

    def take_line(self, line):
        """Count a line that is equal to the one before, or say that one."""
        if line != self.line:
            self.end_lines()
            self.line = line
            self.many = 0
        self.many = self.many + 1

    def end_lines(self):
        """Say the line that was counted."""
        if self.line is not None:
            self.say_line(str(self.many) + ' ' + self.line if self.counts else self.line)


class Reverse(LineTool):
    """The lines, each from its end on."""

    def take_line(self, line):
        """Say a line from its end on."""
        self.say_line(line[::-1])


class Replace(TextTool):
    """The text with another one in the places of one."""

    def __init__(self, words, paths, old, new):
        TextTool.__init__(self, words, paths)
        self.old = old
        self.new = new
        self.rest = ''

    def take(self, text):
        """Say what cannot have a part of the text that is looked for at its end."""
        self.rest = self.rest + text
        if '\n' not in self.old:
            whole, sign, rest = self.rest.rpartition('\n')
            self.say((whole + sign).replace(self.old, self.new))
            self.rest = rest

    def finish(self):
        """Say the rest."""
        self.say(self.rest.replace(self.old, self.new))


class Translate(TextTool):
    """The text with other characters in the places of some."""

    def __init__(self, words, old, new):
        TextTool.__init__(self, words, ())
        self.old = old
        self.new = new

    def take(self, text):
        """Say what was read with other characters."""
        self.say(''.join([self.other(letter) for letter in text]))

    def other(self, letter):
        """Return the character that stands for one."""
        place = self.old.find(letter)
        return letter if place < 0 else self.new[min(place, len(self.new) - 1)]


class Tee(TextTool):
    """What descriptor 0 gives, also into a file."""

    def __init__(self, words, path, appends):
        TextTool.__init__(self, words, ())
        self.path = path
        self.appends = appends
        self.copy_number = None

    def go(self, calls):
        """Open the file first, and go on without it if that fails."""
        if self.path is None:
            super().go(calls)
            return
        path = self.path
        self.path = None
        try:
            self.copy_number = calls.open_to_write(path, self.appends)
        except FileError as error:
            self.complain(error.word)

    def take(self, text):
        """Say what was read, and write it into the file."""
        self.say(text)
        if self.copy_number is not None:
            self.tell(self.copy_number, text)

    def lose(self, number, word):
        """Complain of the file, and go on without it."""
        if number != self.copy_number:
            super().lose(number, word)
            return
        self.copy_number = None
        self.unsaid = [row for row in self.unsaid if row[0] != number]
        self.complain(word)


def make_cat(words):
    """Return a tool for cat."""
    return TextTool(words, words[1:])


def lines_wanted(words):
    """Return (how many lines, files) of head and tail, None for words that do not fit."""
    if len(words) < 2 or not words[1].startswith('-'):
        return (LINES_WITHOUT_NUMBER, words[1:])
    return (int(words[1][1:]), words[2:]) if is_number(words[1]) else None


def make_head(words):
    """Return a tool for head."""
    wanted = lines_wanted(words)
    return None if wanted is None else Head(words, wanted[1], wanted[0])


def make_tail(words):
    """Return a tool for tail."""
    wanted = lines_wanted(words)
    return None if wanted is None else Tail(words, wanted[1], wanted[0])


def make_wc(words):
    """Return a tool for wc."""
    return Count(words, words[1:])


def behind_option(words, option):
    """Return (whether an option stands behind a tool's name, the words behind it)."""
    is_there = len(words) > 1 and words[1] == option
    return (is_there, words[2:] if is_there else words[1:])


def make_grep(words):
    """Return a tool for grep."""
    without, rest = behind_option(words, '-v')
    return Grep(words, rest[1:], rest[0], not without) if len(rest) > 0 else None


def make_sort(words):
    """Return a tool for sort."""
    falls, paths = behind_option(words, '-r')
    return Sort(words, paths, falls)


def make_uniq(words):
    """Return a tool for uniq."""
    counts, paths = behind_option(words, '-c')
    return Uniq(words, paths, counts)


def make_rev(words):
    """Return a tool for rev."""
    return Reverse(words, words[1:])


def make_replace(words):
    """Return a tool for replace: "" stands nowhere, or everywhere, and does not fit."""
    return Replace(words, words[3:], words[1], words[2]) if len(words) > 2 and words[1] != '' else None


def make_tr(words):
    """Return a tool for tr: for some characters there must be others."""
    if len(words) != 3 or (words[2] == '' and words[1] != ''):
        return None
    return Translate(words, words[1], words[2])


def make_tee(words):
    """Return a tool for tee."""
    appends, paths = behind_option(words, '-a')
    return Tee(words, paths[0], appends) if len(paths) == 1 else None


TEXT_MAKERS = {
    'cat': make_cat, 'head': make_head, 'tail': make_tail, 'wc': make_wc, 'grep': make_grep, 'sort': make_sort,
    'uniq': make_uniq, 'rev': make_rev, 'replace': make_replace, 'tr': make_tr, 'tee': make_tee,
}
