"""Code: programs of a small machine as text, a line for each instruction, and as rows.

A line is "name:" for a label, or a word and operands: registers r0 to r7, numbers, labels.
A row is (word, operand, ..): a register's number, a number, or the place of the row to which a label leads.
"""

from hoststack.errors import CodeError

MOST_ROWS = 200
REGISTERS = ('r0', 'r1', 'r2', 'r3', 'r4', 'r5', 'r6', 'r7')
# What each word takes: registers, a number, a label.
FORMS = {
    'set': 'rn', 'copy': 'rr', 'add': 'rrr', 'sub': 'rrr', 'mul': 'rrr', 'div': 'rrr', 'mod': 'rrr', 'less': 'rrr',
    'same': 'rrr', 'load': 'rr', 'store': 'rr', 'jump': 'l', 'jumpif': 'rl', 'say': 'r', 'ask': 'r', 'fork': 'r',
    'wait': 'r', 'exit': 'r', 'grow': 'r', 'pid': 'r',
}
HALF_RANGE = 2147483648
# As many as the greatest number of 32 bits with a sign has.
MOST_DIGITS = 10


def wrapped(number):
    """Return a number in 32 bits with a sign."""
    return (number + HALF_RANGE) % (2 * HALF_RANGE) - HALF_RANGE


def number_in(text):
    """Return the number of a text, None for a text that is no number of 32 bits with a sign."""
    digits = text[1:] if text.startswith('-') else text
    if not (digits.isascii() and digits.isdigit()) or len(digits.lstrip('0')) > MOST_DIGITS:
        return None
    # Python reads no texts of many thousand digits at once.
    value = int(digits[-MOST_DIGITS:])
    number = -value if text.startswith('-') else value
    return number if wrapped(number) == number else None


def plain_lines(text):
    """Return (number, words) of the lines of a program's text, comments (from "#" on) and blank lines left out."""
    found = []
    for place, line in enumerate(text.split('\n')):
        words = line.partition('#')[0].split()
        if words != []:
            found.append((place + 1, words))
    return found


def label_of(words):
    """Return the name of a line that is a label, None for another line."""
    name = words[0][:-1]
    if len(words) > 1 or not words[0].endswith(':') or name == '' or ':' in name:
        return None
    return name


def assemble(text):
    """Return the rows of a program's text, labels being places of rows; raise CodeError for an invalid text."""
    labels = {}
    lines = []
    for number, words in plain_lines(text):
        name = label_of(words)
        if name is None:
            lines.append((number, words))
        elif name in labels:
            raise CodeError('line ' + str(number) + ' has a label that was there before')
        else:
            labels[name] = len(lines)
    if len(lines) > MOST_ROWS:
        raise CodeError('a program is too long')
    return tuple([row_of(number, words, labels) for number, words in lines])


def row_of(number, words, labels):
    """Return the row of a line."""
    word, *operands = words
    form = FORMS.get(word, None)
    if form is None or len(form) != len(operands):
        raise CodeError('line ' + str(number) + ' is no instruction')
    row = [word]
    for sign, operand in zip(form, operands):
        value = operand_value(sign, operand, labels)
        if value is None:
            raise CodeError('line ' + str(number) + ' has a wrong operand')
        row.append(value)
    return tuple(row)


def operand_value(sign, operand, labels):
    """Return what an operand of a sort stands for, None if it stands for nothing."""
    if sign == 'r':
        return REGISTERS.index(operand) if operand in REGISTERS else None
    if sign == 'n':
        return number_in(operand)
    return labels.get(operand, None)


def row_text(row):
    """Return the line of a row."""
    words = [row[0]]
    for sign, value in zip(FORMS[row[0]], row[1:]):
        words.append(REGISTERS[value] if sign == 'r' else str(value))
    return ' '.join(words)


def disassemble(rows):
    """Return a text that assembles to rows: labels are named by their places."""
    places = {row[-1]: True for row in rows if 'l' in FORMS[row[0]]}
    lines = []
    for place, row in enumerate(rows):
        if place in places:
            lines.append(str(place) + ':')
        lines.append(row_text(row))
    if len(rows) in places:
        lines.append(str(len(rows)) + ':')
    return ''.join([line + '\n' for line in lines])
