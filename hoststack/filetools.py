"""File tools: the programs that change files and folders, and the table of all tools."""

from hoststack.errors import FileError
from hoststack.files import MOST_AT_ONCE
from hoststack.inode import FILE, FOLDER, mode_text
from hoststack.linetools import LINE_MAKERS
from hoststack.names import change_mode, drop_folder, link, rename, unlink
from hoststack.texttools import TEXT_MAKERS, behind_option
from hoststack.tools import TextTool, Tool, is_number, refusal

FALSE_CODE = 1
WRONG_CODE = 2
OCTAL_DIGITS = '01234567'


class PathsTool(Tool):
    """A tool that does the same with several paths, one after another."""

    def __init__(self, words, deed):
        Tool.__init__(self, words)
        self.paths = list(words[1:])
        self.deed = deed

    def go(self, calls):
        """Do it with the next path."""
        if self.paths == []:
            self.is_over = True
            return
        deed = self.deed
        deed(calls.kernel.files, self.paths.pop(0), calls.caller.folder, calls.caller.user)

    def fail(self, word):
        """Complain of a path, and go on with the next one."""
        self.complain(word)


class DeedTool(Tool):
    """A tool that does one thing with two words."""

    def __init__(self, words, pair, deed):
        Tool.__init__(self, words)
        self.pair = pair
        self.deed = deed

    def go(self, calls):
        """Do it."""
        one, other = self.pair
        deed = self.deed
        deed(calls.kernel.files, one, other, calls.caller.folder, calls.caller.user)
        self.is_over = True


class SyncTool(Tool):
    """Lets all that was done survive a crash."""

    def go(self, calls):
        """Sync."""
        calls.kernel.files.sync()
        self.is_over = True


class SeqTool(Tool):
    """The numbers from one to another, each on a line."""

    def __init__(self, words):
        Tool.__init__(self, words)
        self.place = int(words[1])
        self.last = int(words[2])

    def go(self, calls):
        """Say as many numbers as are written at once."""
        text = ''
        while self.place <= self.last and len(text) < MOST_AT_ONCE:
            text = text + str(self.place) + '\n'
            self.place = self.place + 1
        self.say(text)
        self.is_over = self.place > self.last


class TestTool(Tool):
    """Tells by its code whether something holds."""

    def go(self, calls):
        """Test the words; each "!" before them turns the answer."""
        words = list(self.words[1:])
        marks = 0
        while words[:1] == ['!']:
            words.pop(0)
            marks = marks + 1
        self.code = tested(calls, words)
        if self.code != WRONG_CODE and marks % 2 == 1:
            self.code = FALSE_CODE - self.code
        self.is_over = True


def tested(calls, words):
    """Return the code of a test: 0 for what holds, 1 for what does not, 2 for words that are no test."""
    if len(words) < 2:
        return code_of(words != [] and words[0] != '')
    if len(words) == 2:
        return path_tested(calls, words[0], words[1])
    if len(words) == 3:
        return pair_tested(words[0], words[1], words[2])
    return WRONG_CODE


def code_of(holds):
    """Return the code that tells whether something holds."""
    return 0 if holds else FALSE_CODE


def path_tested(calls, sign, path):
    """Return the code of a test of a path."""
    if sign not in ('-e', '-f', '-d'):
        return WRONG_CODE
    try:
        kind = calls.kernel.files.status(path, calls.caller.folder, calls.caller.user).kind
    except FileError:
        return FALSE_CODE
    return code_of(sign == '-e' or (sign == '-f' and kind == FILE) or (sign == '-d' and kind == FOLDER))


def pair_tested(one, sign, other):
    """Return the code of a test of two texts, or of two numbers."""
    if sign in ('=', '!='):
        return code_of((one == other) == (sign == '='))
    if sign not in ('-lt', '-le', '-eq') or not (is_number(one) and is_number(other)):
        return WRONG_CODE
    less = int(one) - int(other)
    return code_of((less < 0 and sign != '-eq') or (less == 0 and sign != '-lt'))


class ListTool(Tool):
    """The names in folders, and files; perhaps with what they are."""

    def __init__(self, words, paths, is_long):
        Tool.__init__(self, words)
        self.paths = list(paths)
        self.is_long = is_long

    def go(self, calls):
        """Say the rows of the next path."""
        self.say_rows(calls.kernel.files, self.paths.pop(0), calls.caller.folder, calls.caller.user)
        self.is_over = self.paths == []

    def say_rows(self, files, path, folder, user):
        """Say a row for each name in a folder, or the one of a file."""
        number = files.resolve(path, folder, user)
        inode = files.blocks.inode(number)
        rows = [(inode, path)]
        if inode.kind == FOLDER:
            names = files.list_folder('', number, user)
            rows = [(files.status(name, number, user, False) if self.is_long else None, name) for name in names]
        self.say(''.join([self.row_text(row, name) for row, name in rows]))

    def row_text(self, inode, name):
        """Return the row of a name."""
        if not self.is_long:
            return name + '\n'
        numbers = ' '.join([str(number) for number in (inode.links, inode.owner, inode.size)])
        return mode_text(inode) + ' ' + numbers + ' ' + name + '\n'


class FindTool(Tool):
    """A path and the paths of all that is within."""

    def __init__(self, words):
        Tool.__init__(self, words)
        # Each is (folder, None for the process's own; name from there on; whole path).
        self.left = [(None, words[1], words[1])]

    def go(self, calls):
        """Say the next path, and look what is within."""
        folder, name, path = self.left.pop()
        files = calls.kernel.files
        user = calls.caller.user
        is_first = folder is None
        number = files.resolve(name, calls.caller.folder if is_first else folder, user, is_first)
        self.say(path + '\n')
        if files.blocks.inode(number).kind == FOLDER:
            names = files.list_folder('', number, user)
            before = path if path.endswith('/') else path + '/'
            self.left.extend([(number, child, before + child) for child in reversed(names)])
        self.is_over = self.left == []


class CopyTool(TextTool):
    """Writes the text of a file into another one, which is opened when the first one is."""

    def __init__(self, words):
        TextTool.__init__(self, words, [words[1]])
        self.copy_number = None

    def go(self, calls):
        """Open the first file, open the other one, or go on as text tools do."""
        if self.number is None or self.copy_number is not None:
            super().go(calls)
        elif self.is_same(calls):
            # To be written it would be emptied, and it holds what it should already.
            self.is_over = True
        else:
            self.copy_number = calls.open_to_write(self.words[2], False)

    def is_same(self, calls):
        """Return True if both paths lead to the same file."""
        files = calls.kernel.files
        try:
            one, other = [files.resolve(path, calls.caller.folder, calls.caller.user) for path in self.words[1:]]
        except FileError:
            return False
        return one == other

    def take(self, text):
        """Write what was read into the other file."""
        self.tell(self.copy_number, text)

    def fail(self, word):
        """Complain, and end."""
        self.give_up(word)


def touch(files, path, folder, user):
    """Make an empty file; what is there already stays as it is."""
    try:
        files.create(path, folder, user)
    except FileError as error:
        if error.word != 'exists':
            raise


def make_folder(files, path, folder, user):
    """Make an empty folder."""
    files.make_folder(path, folder, user)


def make_symbolic(files, text, path, folder, user):
    """Make a symbolic link."""
    files.make_link(path, text, folder, user)


def set_mode(files, digits, path, folder, user):
    """Change a mode, which two digits tell."""
    change_mode(files, path, 8 * int(digits[0]) + int(digits[1]), folder, user)


def make_echo(words):
    """Return a tool for echo."""
    tool = Tool(words)
    tool.say(' '.join(words[1:]) + '\n')
    tool.is_over = True
    return tool


def make_true(words):
    """Return a tool for true."""
    return Tool(words)


def make_false(words):
    """Return a tool for false."""
    tool = Tool(words)
    tool.code = FALSE_CODE
    return tool


def make_seq(words):
    """Return a tool for seq."""
    return SeqTool(words) if len(words) == 3 and is_number(words[1]) and is_number(words[2]) else None


def make_test(words):
    """Return a tool for test."""
    return TestTool(words)


def make_sync(words):
    """Return a tool for sync."""
    return SyncTool(words)


def make_ls(words):
    """Return a tool for ls: without a path the process's folder is listed."""
    is_long, paths = behind_option(words, '-l')
    return ListTool(words, [''] if len(paths) == 0 else paths, is_long)


def make_find(words):
    """Return a tool for find."""
    return FindTool(words) if len(words) == 2 else None


def make_mkdir(words):
    """Return a tool for mkdir."""
    return PathsTool(words, make_folder) if len(words) > 1 else None


def make_rmdir(words):
    """Return a tool for rmdir."""
    return PathsTool(words, drop_folder) if len(words) > 1 else None


def make_rm(words):
    """Return a tool for rm."""
    return PathsTool(words, unlink) if len(words) > 1 else None


def make_touch(words):
    """Return a tool for touch."""
    return PathsTool(words, touch) if len(words) > 1 else None


def make_mv(words):
    """Return a tool for mv."""
    return DeedTool(words, words[1:], rename) if len(words) == 3 else None


def make_cp(words):
    """Return a tool for cp."""
    return CopyTool(words) if len(words) == 3 else None


def make_ln(words):
    """Return a tool for ln."""
    is_symbolic, pair = behind_option(words, '-s')
    return DeedTool(words, pair, make_symbolic if is_symbolic else link) if len(pair) == 2 else None


def make_chmod(words):
    """Return a tool for chmod."""
    digits = [letter in OCTAL_DIGITS for letter in words[1]] if len(words) == 3 else []
    return DeedTool(words, words[1:], set_mode) if digits == [True, True] else None


FILE_MAKERS = {
    'echo': make_echo, 'true': make_true, 'false': make_false, 'seq': make_seq, 'test': make_test, 'sync': make_sync,
    'ls': make_ls, 'find': make_find, 'mkdir': make_mkdir, 'rmdir': make_rmdir, 'rm': make_rm, 'touch': make_touch,
    'mv': make_mv, 'cp': make_cp, 'ln': make_ln, 'chmod': make_chmod,
}


def is_tool(name):
    """Return True if a tool has a name."""
    return name in FILE_MAKERS or name in TEXT_MAKERS or name in LINE_MAKERS


def maker_of(name):
    """Return what makes the tool of a name, which there is."""
    if name in FILE_MAKERS:
        return FILE_MAKERS[name]
    return TEXT_MAKERS[name] if name in TEXT_MAKERS else LINE_MAKERS[name]


def make_tool(words):
    """Return the tool that words ask for; one that complains if they fit no tool."""
    tool = None
    if is_tool(words[0]):
        maker = maker_of(words[0])
        tool = maker(words)
    return refusal(words) if tool is None else tool
