"""Expanding: words to fields: variables, codes, sums and outputs of scripts put in, split, and names matched.

Letters are (character, whether it is quoted).
"""

from hoststack.errors import FileError
from hoststack.sums import sum_value

ANY_TEXT = ('*', False)
ANY_LETTER = ('?', False)


class Expansion:
    """Words to expand, the place in them, the letters of the word so far, and whether words are split and matched.

    The rows are the letters of fields as they were before names were matched.
    """

    def __init__(self, words, splits):
        self.words = list(words)
        self.splits = splits
        self.fields = []
        self.rows = []
        self.place = 0
        self.part = 0
        self.letters = []
        self.has_quotes = False
        self.first_row = 0

    def is_done(self):
        """Return True if all words are expanded."""
        return self.place == len(self.words)

    def part_here(self):
        """Return the part that is expanded next, None at the end of a word."""
        if self.is_done() or self.part == len(self.words[self.place]):
            return None
        return self.words[self.place][self.part]

    def next_script(self):
        """Return the script whose output is wanted next, None for another part."""
        part = self.part_here()
        return part[1] if part is not None and part[0] == 'run' else None

    def go(self, variables, code, names):
        """Expand the next part, or end a word; names is a function from a pattern's letters to matching paths."""
        part = self.part_here()
        if part is None:
            self.end_word(names)
        elif part[0] == 'text':
            self.add(part[1], part[2], False)
        else:
            self.add(value_of(part, variables, code), part[-1], True)

    def add(self, text, quoted, splits):
        """Add a part's text to the word's letters and go on to the next part."""
        self.has_quotes = self.has_quotes or quoted
        self.part = self.part + 1
        for letter in text:
            if splits and self.splits and not quoted and letter in (' ', '\n'):
                self.end_row()
            else:
                self.letters.append((letter, quoted))

    def end_row(self):
        """Keep the letters so far as a row, if they are one."""
        if self.letters != [] or self.has_quotes or not self.splits:
            self.rows.append(tuple(self.letters))
        self.letters = []
        self.has_quotes = False

    def end_word(self, names):
        """End a word: its rows become fields."""
        self.end_row()
        for row in self.rows[self.first_row:]:
            paths = names(row) if self.splits and is_pattern(row) else []
            self.fields.extend(list(paths) if len(paths) > 0 else [text_of_letters(row)])
        self.first_row = len(self.rows)
        self.place = self.place + 1
        self.part = 0


def value_of(part, variables, code):
    """Return the text that is put in for a variable, the last code or a sum."""
    if part[0] == 'status':
        return str(code)
    if part[0] == 'sum':
        return str(sum_value(part[1], variables))
    return variables.get(part[1], '0' if part[1] == '#' else '')


def text_of_letters(letters):
    """Return the text of letters."""
    return ''.join([letter for letter, quoted in letters])


def is_pattern(letters):
    """Return True if letters have * or ? that are not quoted."""
    return ANY_TEXT in letters or ANY_LETTER in letters


def matches(text, letters):
    """Return True if a text matches letters: * is any text, ? any character, unless quoted."""
    places = closed([0], letters)
    for sign in text:
        places = closed(moved(places, sign, letters), letters)
    return len(letters) in places


def closed(places, letters):
    """Return places and those after stars at them."""
    found = []
    for start in places:
        place = start
        while place not in found:
            found.append(place)
            if place < len(letters) and letters[place] == ANY_TEXT:
                place = place + 1
    return found


def moved(places, sign, letters):
    """Return the places after one character."""
    found = []
    for place in places:
        if place < len(letters) and letters[place] == ANY_TEXT:
            found.append(place)
        elif place < len(letters) and (letters[place] == ANY_LETTER or letters[place][0] == sign):
            found.append(place + 1)
    return found


def parts_of_path(letters):
    """Return (letters of a name, how many "/" stand behind it) of the names of a path; the first one may be empty."""
    found = [[[], 0]]
    for letter in letters:
        if letter[0] == '/':
            found[-1][1] = found[-1][1] + 1
        elif found[-1][1] > 0:
            found.append([[letter], 0])
        else:
            found[-1][0].append(letter)
    return [(name, many) for name, many in found]


def matching_paths(files, folder, user, letters):
    """Return the paths that a pattern of letters matches, in ascending order; names with a "." first only by a "."."""
    paths = ['']
    parts = parts_of_path(letters)
    for name, many in parts:
        if is_pattern(name):
            paths = [path + found for path in paths for found in matching_names(files, folder, user, path, name)]
        else:
            paths = [path + text_of_letters(name) for path in paths]
        paths = [path + '/' * many for path in paths]
    # A name that was listed is there; what stands behind it may not be.
    is_listed = is_pattern(parts[-1][0]) and parts[-1][1] == 0
    return sorted([path for path in paths if is_listed or is_there(files, folder, user, path)])


def matching_names(files, folder, user, path, letters):
    """Return the names in the folder of a path that match letters."""
    try:
        names = files.list_folder(path, folder, user)
    except FileError:
        return []
    return [name for name in names if is_seen(name, letters) and matches(name, letters)]


def is_seen(name, letters):
    """Return True if a name does not begin with ".", or letters do so too."""
    return not name.startswith('.') or letters[0][0] == '.'


def is_there(files, folder, user, path):
    """Return True if a path names something."""
    try:
        files.resolve(path, folder, user, False)
    except FileError:
        return False
    return True
