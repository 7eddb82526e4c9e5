"""Tools: the programs that come with the system, as processes that make one call at a step."""

from hoststack.errors import FileError
from hoststack.files import MOST_AT_ONCE

COMPLAINTS = 2
MOST_DIGITS = 9


def is_number(text):
    """Return True if a text is a number of at most nine digits, perhaps after "-"."""
    digits = text[1:] if text.startswith('-') else text
    return digits.isascii() and digits.isdigit() and len(digits) <= MOST_DIGITS


class Tool:
    """A tool: its words, its code so far, what it has still to write, and whether that is all."""

    def __init__(self, words):
        self.words = words
        self.code = 0
        self.unsaid = []
        self.is_over = False

    def step(self, calls):
        """Make a call; return the code if nothing is left to be done."""
        if self.unsaid != []:
            self.write_on(calls)
            return None
        if self.is_over:
            return self.code
        try:
            self.go(calls)
        except FileError as error:
            self.fail(error.word)
        return None

    def go(self, calls):
        """Do the next thing: tools of other classes do more."""
        self.is_over = True

    def leave(self):
        """Give nothing back: a process closes its descriptors itself."""

    def fail(self, word):
        """Complain of what could not be done; tools of other classes go on with something else."""
        self.give_up(word)

    def give_up(self, word):
        """Complain, and end."""
        self.complain(word)
        self.is_over = True

    def complain(self, word):
        """Tell a fault's word on descriptor 2, and end with code 1 at last."""
        self.code = 1
        self.tell(COMPLAINTS, self.words[0] + ': ' + word + '\n')

    def say(self, text):
        """Let a text be written to descriptor 1."""
        self.tell(1, text)

    def tell(self, number, text):
        """Let a text be written to a descriptor."""
        if text == '':
            return
        if self.unsaid != [] and self.unsaid[-1][0] == number:
            text = self.unsaid.pop()[1] + text
        self.unsaid.append((number, text))

    def write_on(self, calls):
        """Write as much as goes at once; without descriptor 2 there is nowhere to complain."""
        number, text = self.unsaid[0]
        try:
            many = calls.write(number, text[:MOST_AT_ONCE])
        except FileError as error:
            if number == COMPLAINTS:
                raise
            self.lose(number, error.word)
            return
        if many is not None:
            rest = [(number, text[many:])] if many < len(text) else []
            self.unsaid = rest + self.unsaid[1:]

    def lose(self, number, word):
        """Complain of a descriptor that cannot be written, and end."""
        self.unsaid = []
        self.give_up(word)


def refusal(words, fault='bad arguments'):
    """Return a tool that complains."""
    tool = Tool(words)
    tool.give_up(fault)
    return tool


class TextTool(Tool):
    """A tool that reads files one after another, or descriptor 0 without files."""

    def __init__(self, words, paths):
        Tool.__init__(self, words)
        self.paths = list(paths)
        self.at_once = MOST_AT_ONCE
        self.number = 0 if self.paths == [] else None
        self.is_opened = False
        self.is_read = False

    def go(self, calls):
        """Open a file, read on, close it, or go on behind all files."""
        if self.number is None and self.paths == []:
            self.go_behind(calls)
        elif self.number is None:
            self.number = calls.open_to_read(self.paths.pop(0))
            self.is_opened = True
        elif self.is_read:
            self.close_file(calls)
        else:
            self.read_on(calls)

    def read_on(self, calls):
        """Read what comes next of a file."""
        text = calls.read(self.number, self.at_once)
        if text == '':
            self.end_file()
            self.leave_file()
        elif text is not None:
            self.take(text)

    def leave_file(self):
        """Read no more of a file; descriptor 0 is not closed, for the tool did not open it."""
        self.is_read = self.is_opened
        if not self.is_opened:
            self.number = None

    def close_file(self, calls):
        """Close a file."""
        number = self.number
        self.number = None
        self.is_opened = False
        self.is_read = False
        calls.close(number)

    def fail(self, word):
        """Complain of a file, and go on with the next one."""
        self.complain(word)
        if self.number is not None:
            self.leave_file()

    def go_behind(self, calls):
        """Go on when all is read."""
        self.finish()
        self.is_over = True

    def take(self, text):
        """Take what was read: what is read is said."""
        self.say(text)

    def end_file(self):
        """Note that a file ends."""

    def finish(self):
        """Say what is still to be said when all is read."""


class LineTool(TextTool):
    """A text tool that takes lines; a last one without a line end is a line."""

    def __init__(self, words, paths):
        TextTool.__init__(self, words, paths)
        self.rest = ''

    def take(self, text):
        """Take the lines that end in what was read."""
        *lines, rest = (self.rest + text).split('\n')
        self.rest = rest
        for line in lines:
            self.take_line(line)

    def finish(self):
        """Take the last line, and tell what all lines give."""
        if self.rest != '':
            self.take_line(self.rest)
        self.end_lines()

    def take_line(self, line):
        """Take a line."""
        self.say_line(line)

    def say_line(self, line):
        """Say a line with its end."""
        self.say(line + '\n')

    def end_lines(self):
        """Say what is still to be said behind all lines."""
