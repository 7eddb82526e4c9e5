"""Script text: trees as scripts that parse to the same trees."""

from hoststack.script import RESERVED
from hoststack.sums import sum_text
from hoststack.words import ESCAPED, is_name, plain_text


def word_text(parts):
    """Return the text of a word."""
    return ''.join([part_text(part) for part in parts])


def part_text(part):
    """Return the text of a part of a word."""
    text = escaped(part[1]) if part[0] == 'text' and part[2] else dollar_text(part)
    return '"' + text + '"' if part[-1] else text


def escaped(text):
    """Return a text as it stands within quotes."""
    return ''.join(['\\' + letter if letter in ESCAPED else letter for letter in text])


def dollar_text(part):
    """Return the text of an unquoted part, or of what begins with $ within quotes."""
    if part[0] == 'text':
        return part[1]
    if part[0] == 'status':
        return '$?'
    if part[0] == 'name':
        return '${' + part[1] + '}' if is_name(part[1]) else '$' + part[1]
    if part[0] == 'sum':
        return '$((' + sum_text(part[1]) + '))'
    text = script_text(part[1])
    # "$((" would begin a sum.
    return '$( ' + text + ')' if text.startswith('(') else '$(' + text + ')'


def words_text(words):
    """Return the texts of words, each behind a blank."""
    return ''.join([' ' + word_text(word) for word in words])


def redirects_text(redirects):
    """Return the texts of redirects, each behind a blank."""
    return ''.join([' ' + sign + ' ' + word_text(word) for sign, word in redirects])


def simple_text(node):
    """Return the text of a simple command."""
    assignments = ''.join([' ' + name + '=' + word_text(word) for name, word in node[1]])
    words = words_text(node[2])
    redirects = redirects_text(node[3])
    if len(node[2]) > 0 and plain_text(node[2][0]) in RESERVED:
        return (assignments + redirects + words)[1:]
    return (assignments + words + redirects)[1:]


def pipe_text(node):
    """Return the text of a pipeline."""
    return ' | '.join([node_text(part) for part in node[1]])


def chain_text(node):
    """Return the text of commands with "&&" or "||" between them."""
    sign = ' && ' if node[0] == 'and' else ' || '
    return node_text(node[1]) + sign + node_text(node[2])


def not_text(node):
    """Return the text of a command behind "!"."""
    return '! ' + node_text(node[1])


def back_text(node):
    """Return the text of a command in the background."""
    return node_text(node[1]) + ' &'


def group_text(node):
    """Return the text of "{ list }" or "(list)" with its redirects."""
    first, last = ('{ ', ' }') if node[0] == 'group' else ('( ', ' )')
    return first + script_text(node[1]) + last + redirects_text(node[2])


def choice_text(node):
    """Return the text of "if" with all its parts."""
    text = 'if ' + parts_of_choice(node)
    other = node[3]
    while other is not None and other[0] == 'if':
        text = text + ' elif ' + parts_of_choice(other)
        other = other[3]
    if other is not None:
        text = text + ' else ' + script_text(other)
    return text + ' fi'


def parts_of_choice(node):
    """Return the text of a test and of what is done if it is true."""
    return script_text(node[1]) + ' then ' + script_text(node[2])


def loop_text(node):
    """Return the text of "while"."""
    return 'while ' + script_text(node[1]) + ' do ' + script_text(node[2]) + ' done'


def each_text(node):
    """Return the text of "for"."""
    return 'for ' + node[1] + ' in' + words_text(node[2]) + '; do ' + script_text(node[3]) + ' done'


def selection_text(node):
    """Return the text of "case"."""
    rows = ''.join([row_text(patterns, body) for patterns, body in node[2]])
    return 'case ' + word_text(node[1]) + ' in ' + rows + 'esac'


def row_text(patterns, body):
    """Return the text of a part of a "case"."""
    words = ' | '.join([word_text(pattern) for pattern in patterns])
    return '(' + words + ') ' + script_text(body) + ' ;; '


def define_text(node):
    """Return the text of a function's definition."""
    return node[1] + '() { ' + script_text(node[2]) + ' }'


def script_text(node):
    """Return the text of a list of commands, each with ";" or "&" at its end."""
    return ' '.join([node_text(part) if part[0] == 'back' else node_text(part) + ';' for part in node[1]])


TEXTS = {
    'simple': simple_text, 'pipe': pipe_text, 'and': chain_text, 'or': chain_text, 'not': not_text, 'back': back_text,
    'group': group_text, 'shell': group_text, 'if': choice_text, 'while': loop_text, 'for': each_text,
    'case': selection_text, 'define': define_text, 'list': script_text,
}


def node_text(node):
    """Return the text of a command."""
    action = TEXTS[node[0]]
    return action(node)
