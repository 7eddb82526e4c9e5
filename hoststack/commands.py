"""Commands: what a shell does for a simple command: redirects, programs, and what it carries out itself."""

from hoststack.code import assemble
from hoststack.errors import CodeError, FileError
from hoststack.files import MOST_AT_ONCE
from hoststack.filetools import is_tool, make_tool
from hoststack.machine import CODES, file_text, load_program
from hoststack.tools import COMPLAINTS
from hoststack.words import ARGUMENTS, is_name

MISSING_CODE = 127
REFUSED_CODE = 126
WRONG_WORD_CODE = 2
MOST_EXIT_DIGITS = 5
CODE_MARK = '#code'
TOP = '/'
LINE_NAME = 'REPLY'
SHELL_NAME = 'shell'
MANY_ARGUMENTS = '#'
MOST_ARGUMENTS = 9


class Commands:
    """Variables, the last code, a stack, a complaint and a line, which the shell that extends this class has.

    The stack holds what is still to be done, the next thing at its end, each as a tuple that begins with a word.
    """

    def __init__(self, variables, code):
        self.variables = variables
        self.code = code
        self.stack = []
        self.complaint = ''
        self.line = ''

    def give(self, words):
        """Let $1, $2 and so on be words, up to $9, and $# their number."""
        for name in ARGUMENTS:
            self.variables.pop(name, None)
        for place, word in enumerate(words[:MOST_ARGUMENTS]):
            self.variables[ARGUMENTS[place]] = word
        self.variables[MANY_ARGUMENTS] = str(len(words))

    def arguments(self):
        """Return a table of $1, $2 and so on, and $#, as far as they are there."""
        return {name: self.variables[name] for name in ARGUMENTS if name in self.variables}

    def give_back(self, arguments):
        """Let $1, $2 and so on, and $#, be what they were before."""
        for name in ARGUMENTS:
            self.variables.pop(name, None)
        self.variables.update(arguments)

    def fail(self, name, word, code=1):
        """Complain of a fault on descriptor 2, in the next steps, with a code."""
        self.complaint = name + ': ' + word + '\n'
        self.code = code

    def complain_on(self, calls):
        """Write as much of the complaint as goes at once."""
        many = calls.write(COMPLAINTS, self.complaint[:MOST_AT_ONCE])
        if many is not None:
            self.complaint = self.complaint[many:]

    def program_task(self, calls, fields):
        """Return the task of a program, None if it cannot be run, of which the shell complains."""
        if fields[0] in BUILT_IN:
            return ('built', fields)
        if is_tool(fields[0]):
            return ('start', make_tool(fields))
        try:
            return ('start', program_at(calls, fields[0]))
        except FileError as error:
            self.fail(fields[0], error.word, MISSING_CODE if error.word == 'missing' else REFUSED_CODE)
            return None

    def redirect(self, calls, redirects, paths):
        """Let descriptors lead to files, in order, until the task is done; return False if that fails."""
        table = calls.caller.table
        calls.caller.table = table.copied()
        self.stack.append(('restore', table))
        try:
            for (sign, word), path in zip(redirects, paths):
                lead(calls, sign, path)
        except FileError as error:
            self.fail(SHELL_NAME, error.word)
            return False
        return True


def lead(calls, sign, path):
    """Let a descriptor lead to a file, as a redirect tells."""
    if sign == '<':
        calls.caller.table.put(0, calls.readable(path))
    else:
        calls.caller.table.put(COMPLAINTS if sign == '2>' else 1, calls.writable(path, sign == '>>'))


def program_at(calls, path):
    """Return the program of an executable file; raise FileError if it cannot be run."""
    files = calls.kernel.files
    number = files.resolve(path, calls.caller.folder, calls.caller.user)
    files.file_inode(number)
    files.need(number, calls.caller.user, 'x')
    text = file_text(files, number)
    if not text.startswith(CODE_MARK):
        raise FileError('denied')
    try:
        rows = assemble(text)
    except CodeError:
        raise FileError('denied') from None
    return load_program(calls.kernel, rows)


def change_folder(commands, calls, words):
    """Let another folder be the shell's, the root without a word."""
    try:
        calls.enter(words[1] if len(words) > 1 else TOP)
        commands.code = 0
    except FileError as error:
        commands.fail(words[0], error.word)


def end_shell(commands, calls, words):
    """Return the code with which the shell ends, the last one without a word."""
    if len(words) > 1:
        commands.code = exit_code(words[1])
    return commands.code


def exit_code(word):
    """Return the code that a word tells."""
    if not (word.isascii() and word.isdigit()) or len(word.lstrip('0')) > MOST_EXIT_DIGITS:
        return WRONG_WORD_CODE
    return int(word[-MOST_EXIT_DIGITS:]) % CODES


def begin_line(commands, calls, words):
    """Begin to read a line into a variable."""
    name = words[1] if len(words) > 1 else LINE_NAME
    if is_name(name):
        commands.line = ''
        commands.stack.append(('read', name))
    else:
        commands.code = WRONG_WORD_CODE


def begin_waiting(commands, calls, words):
    """Begin to wait for all children."""
    commands.stack.append(('children',))


def do_nothing(commands, calls, words):
    """Do nothing, with code 0."""
    commands.code = 0


BUILT_IN = {'cd': change_folder, 'exit': end_shell, 'read': begin_line, 'wait': begin_waiting, ':': do_nothing}


def carry_out(commands, calls, item):
    """Carry out what is built in; return the code if the shell ends."""
    fields = item[1]
    action = BUILT_IN[fields[0]]
    return action(commands, calls, fields)


def read_on(commands, calls, item):
    """Read a character of a line; at its end, a variable gets the line."""
    try:
        letter = calls.read(0, 1)
    except FileError as error:
        commands.fail('read', error.word)
        return
    if letter in ('', '\n'):
        commands.variables[item[1]] = commands.line
        commands.code = 1 if letter == '' and commands.line == '' else 0
    else:
        commands.line = commands.line + (letter or '')
        commands.stack.append(item)


def wait_on(commands, calls, item):
    """Wait for the next child, until there is none."""
    if calls.wait_any() == (0, 0):
        commands.code = 0
    else:
        commands.stack.append(item)


COMMAND_ACTIONS = {'built': carry_out, 'read': read_on, 'children': wait_on}
