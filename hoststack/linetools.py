"""Line tools: more programs that work on texts: parts of lines, pasted files, differences, sums and packed files."""

from hoststack.errors import FileError
from hoststack.inode import FILE, FOLDER
from hoststack.letters import letter_number
from hoststack.names import change_mode, sort_in_tree, tree_of
from hoststack.opened import OpenFile
from hoststack.tools import LineTool, TextTool, Tool, is_number

PACK_MARK = '#pack'
PACK_WORDS = ('file', 'link', 'folder')
LINE_MARK = '|'
SUM_START = 7
SUM_FACTOR = 31
SUM_TOP = 1000003


def lines_of(text):
    """Return the lines of a text, a last one without a line end too."""
    lines = text.split('\n')
    return lines[:-1] if lines[-1] == '' else lines


def common_lengths(one, other):
    """Return a table of (place, other place) to how long a common row of lines there is from there on."""
    below = [0] * (len(other) + 1)
    found = [below]
    for line in reversed(one):
        row = [0] * (len(other) + 1)
        for place in range(len(other) - 1, -1, -1):
            row[place] = below[place + 1] + 1 if line == other[place] else max(below[place], row[place + 1])
        found.append(row)
        below = row
    return found[::-1]


def difference(one, other):
    """Return (sign, line) of a shortest way from lines to others: "<" dropped, ">" added, "=" kept."""
    lengths = common_lengths(one, other)
    found = []
    place = 0
    behind = 0
    while place < len(one) or behind < len(other):
        if place < len(one) and behind < len(other) and one[place] == other[behind]:
            found.append(('=', one[place]))
            place = place + 1
            behind = behind + 1
        elif behind == len(other) or (place < len(one) and lengths[place + 1][behind] >= lengths[place][behind + 1]):
            found.append(('<', one[place]))
            place = place + 1
        else:
            found.append(('>', other[behind]))
            behind = behind + 1
    return found


def pack_lines(rows, prefix=''):
    """Return the lines that pack rows as tree_of tells them: a head for each, and a file's lines after "|"."""
    found = []
    for name, mode, owner, content in rows:
        sort = sort_in_tree(content)
        path = prefix + name
        found.append(sort + ' ' + str(mode) + ' ' + path)
        if sort == 'folder':
            found.extend(pack_lines(content[1], path + '/'))
        else:
            text = content[1] if sort == 'link' else content
            found.extend([LINE_MARK + line for line in text.split('\n')])
    return found


def head_row(line):
    """Return (word, mode, path, lines so far) of a line that begins something packed."""
    words = line.split(' ', 2)
    if len(words) < 3 or words[0] not in PACK_WORDS or not is_number(words[1]):
        raise FileError('bad pack')
    return (words[0], int(words[1]), words[2], [])


def unpack_rows(text):
    """Return (word, mode, path, text) of what a packed text holds, in order; raise FileError "bad pack"."""
    lines = lines_of(text)
    if lines == [] or lines[0] != PACK_MARK:
        raise FileError('bad pack')
    found = []
    for line in lines[1:]:
        if not line.startswith(LINE_MARK):
            found.append(head_row(line))
        elif found == [] or found[-1][0] == 'folder':
            raise FileError('bad pack')
        else:
            found[-1][3].append(line[1:])
    return [(word, mode, path, '\n'.join(parts)) for word, mode, path, parts in found]


class Cut(LineTool):
    """Of each line the characters from one to another."""

    def __init__(self, words, paths, first, last):
        LineTool.__init__(self, words, paths)
        self.first = first
        self.last = last

    def take_line(self, line):
        """Say a part of a line."""
        self.say_line(line[max(self.first - 1, 0):self.last])


class Field(LineTool):
    """Of each line a word."""

    def __init__(self, words, paths, place):
        LineTool.__init__(self, words, paths)
        self.place = place

    def take_line(self, line):
        """Say a word of a line, an empty line if there are fewer."""
        found = line.split()
        self.say_line(found[self.place - 1] if self.place <= len(found) else '')


class Sum(TextTool):
    """A number that tells texts apart, and how long the text is."""

    def __init__(self, words, paths):
        TextTool.__init__(self, words, paths)
        self.value = SUM_START
        self.length = 0

    def take(self, text):
        """Count characters in."""
        for letter in text:
            self.value = (SUM_FACTOR * self.value + letter_number(letter) + 1) % SUM_TOP
        self.length = self.length + len(text)

    def finish(self):
        """Say the numbers."""
        self.say(str(self.value) + ' ' + str(self.length) + '\n')


class Pair(TextTool):
    """A tool that works on the lines of two files, and ends at once if one cannot be read."""

    def __init__(self, words):
        TextTool.__init__(self, words, words[1:])
        self.text = ''
        self.texts = []

    def take(self, text):
        """Keep what was read."""
        self.text = self.text + text

    def end_file(self):
        """Keep the text of a file."""
        self.texts.append(self.text)
        self.text = ''

    def fail(self, word):
        """Complain, and end."""
        self.give_up(word)

    def finish(self):
        """Compare or join the lines."""
        self.join_lines(lines_of(self.texts[0]), lines_of(self.texts[1]))

    def join_lines(self, one, other):
        """End with code 1 if lines differ."""
        if one != other:
            self.code = 1


class Paste(Pair):
    """The lines of two files side by side."""

    def join_lines(self, one, other):
        """Say the lines, a blank between them."""
        for place in range(max(len(one), len(other))):
            left = one[place] if place < len(one) else ''
            right = other[place] if place < len(other) else ''
            self.say((left + ' ' + right).rstrip(' ') + '\n')


class Diff(Pair):
    """The lines in which two files differ."""

    def join_lines(self, one, other):
        """Say what one of the two has alone; end with code 1 if there is something."""
        for sign, line in difference(one, other):
            if sign != '=':
                self.code = 1
                self.say(sign + ' ' + line + '\n')


class Pack(Tool):
    """All that is in a folder, as a text."""

    def go(self, calls):
        """Say the packed text."""
        files = calls.kernel.files
        number = files.resolve(self.words[1], calls.caller.folder, calls.caller.user)
        need_all(files, number, calls.caller.user)
        self.say(''.join([line + '\n' for line in [PACK_MARK] + pack_lines(tree_of(files, number))]))
        self.is_over = True


def need_all(files, number, user):
    """Raise FileError "denied" if a user may not read all that is in a folder."""
    entries = files.entries(number)
    files.need(number, user, 'r')
    files.need(number, user, 'x')
    for name in sorted(entries):
        kind = files.blocks.inode(entries[name]).kind
        if kind == FOLDER:
            need_all(files, entries[name], user)
        elif kind == FILE:
            files.need(entries[name], user, 'r')


class Unpack(TextTool):
    """Makes what packed texts hold; what is made gets its mode when all is made."""

    def __init__(self, words):
        TextTool.__init__(self, words, words[2:])
        self.text = ''
        self.rows = None
        self.modes = []
        self.made = None

    def take(self, text):
        """Keep what was read."""
        self.text = self.text + text

    def go_behind(self, calls):
        """Make the next thing, close it, or give the last one that has none its mode."""
        if self.rows is None:
            self.rows = []
            self.rows = unpack_rows(self.text)
        elif self.made is not None:
            number = self.made
            self.made = None
            calls.close(number)
        elif self.rows != []:
            self.make(calls, self.rows.pop(0))
        elif self.modes != []:
            path, mode = self.modes.pop()
            change_mode(calls.kernel.files, path, mode, calls.caller.folder, calls.caller.user)
        else:
            self.is_over = True

    def make(self, calls, row):
        """Make a file, a folder or a link."""
        word, mode, told, text = row
        files = calls.kernel.files
        path = self.words[1] + '/' + told
        if word == 'link':
            files.make_link(path, text, calls.caller.folder, calls.caller.user)
            return
        if word == 'folder':
            files.make_folder(path, calls.caller.folder, calls.caller.user)
        else:
            number = files.create(path, calls.caller.folder, calls.caller.user)
            self.made = calls.caller.table.add(OpenFile(files, number, False, True, False))
            self.tell(self.made, text)
        self.modes.append((path, mode))

    def lose(self, number, word):
        """Complain of a file that cannot be written, and go on with the next one."""
        self.unsaid = []
        self.complain(word)


def make_cut(words):
    """Return a tool for cut."""
    if len(words) < 3:
        return None
    first, sign, last = words[2].partition('-')
    if words[1] == '-f':
        return Field(words, words[3:], int(first)) if sign == '' and is_number(first) and int(first) > 0 else None
    if sign == '':
        last = first
    if words[1] != '-c' or not (is_number(first) and is_number(last)) or int(last) < 1:
        return None
    return Cut(words, words[3:], int(first), int(last))


def make_sum(words):
    """Return a tool for sum."""
    return Sum(words, words[1:])


def make_paste(words):
    """Return a tool for paste."""
    return Paste(words) if len(words) == 3 else None


def make_cmp(words):
    """Return a tool for cmp."""
    return Pair(words) if len(words) == 3 else None


def make_diff(words):
    """Return a tool for diff."""
    return Diff(words) if len(words) == 3 else None


def make_pack(words):
    """Return a tool for pack."""
    return Pack(words) if len(words) == 2 else None


def make_unpack(words):
    """Return a tool for unpack."""
    return Unpack(words) if len(words) > 1 else None


LINE_MAKERS = {
    'cut': make_cut, 'sum': make_sum, 'paste': make_paste, 'cmp': make_cmp, 'diff': make_diff, 'pack': make_pack,
    'unpack': make_unpack,
}
