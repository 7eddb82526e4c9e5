"""Shell: processes that run scripts, one small step at a time."""

from hoststack.commands import COMMAND_ACTIONS, Commands
from hoststack.errors import ProcessError
from hoststack.expand import Expansion, matches, matching_paths
from hoststack.files import MOST_AT_ONCE
from hoststack.opened import PipeEnd
from hoststack.pipe import Pipe


class ShellProgram(Commands):
    """A stack of what is still to be done, variables, the last code, and a complaint that is being written."""

    def __init__(self, node, variables=None, code=0, functions=None):
        Commands.__init__(self, {} if variables is None else variables, code)
        self.functions = {} if functions is None else functions
        # The code of the last script whose output the command put in, None without one.
        self.output_code = None
        self.stack.append(('begin', node))

    def leave(self):
        """Close what descriptors led to before redirects that are still in force."""
        for item in self.stack:
            if item[0] == 'restore':
                item[1].close_all()

    def step(self, calls):
        """Do the next small step; end with the last code if nothing is left."""
        if self.complaint != '':
            self.complain_on(calls)
            return None
        if self.stack == []:
            return self.code
        item = self.stack.pop()
        action = ACTIONS[item[0]] if item[0] in ACTIONS else COMMAND_ACTIONS[item[0]]
        return action(self, calls, item)

    def begin(self, calls, node):
        """Begin a command."""
        action = BEGINNINGS[node[0]]
        action(self, calls, node)

    def expand(self, words, splits, follow):
        """Let words be expanded; what follows is told by a tuple that begins with a word."""
        self.stack.append(('expand', Expansion(words, splits), follow))

    def redirected(self, redirects, task):
        """Let a task be done with redirects."""
        if len(redirects) == 0:
            self.stack.append(task)
        else:
            self.expand([word for sign, word in redirects], False, ('redirects', redirects, task))

    def need_room(self, calls, many):
        """Raise ProcessError if so many more processes cannot start."""
        # Descriptors that are copied for a process that does not start would never be closed.
        if calls.kernel.room() < many:
            raise ProcessError('there are too many processes')

    def start_shell(self, calls, node, table):
        """Start a process that runs a command with the same variables and functions; return its number."""
        return calls.start(ShellProgram(node, dict(self.variables), self.code, dict(self.functions)), table)


def go_begin(shell, calls, item):
    """Begin a command."""
    shell.begin(calls, item[1])


def begin_list(shell, calls, node):
    """Begin the first command of a list."""
    go_list(shell, calls, ('list', node[1], 0))


def go_list(shell, calls, item):
    """Begin the next command of a list."""
    word, nodes, place = item
    if place + 1 < len(nodes):
        shell.stack.append((word, nodes, place + 1))
    shell.stack.append(('begin', nodes[place]))


def begin_chain(shell, calls, node):
    """Begin the first of two commands, of which the other one may not be done."""
    shell.stack.append((node[0], node[2]))
    shell.stack.append(('begin', node[1]))


def go_chain(shell, calls, item):
    """Begin the other command if the first one's code asks for it."""
    if (shell.code == 0) == (item[0] == 'and'):
        shell.stack.append(('begin', item[1]))


def begin_not(shell, calls, node):
    """Begin a command whose code is turned."""
    shell.stack.append(('not',))
    shell.stack.append(('begin', node[1]))


def go_not(shell, calls, item):
    """Turn the code."""
    shell.code = 1 if shell.code == 0 else 0


def begin_pipe(shell, calls, node):
    """Start all commands of a pipeline at once, to wait for them in order: the last one's code is the pipeline's."""
    shell.need_room(calls, len(node[1]))
    pipes = [Pipe(calls.kernel.pipe_size) for _ in node[1][1:]]
    tables = [calls.caller.table.copied() for _ in node[1]]
    for place, pipe in enumerate(pipes):
        tables[place].put(1, PipeEnd(pipe, True))
        tables[place + 1].put(0, PipeEnd(pipe, False))
    numbers = [shell.start_shell(calls, part, table) for part, table in zip(node[1], tables)]
    shell.stack.extend([('wait', number) for number in reversed(numbers)])


def begin_back(shell, calls, node):
    """Start a command in the background."""
    shell.need_room(calls, 1)
    shell.start_shell(calls, node[1], calls.caller.table.copied())
    shell.code = 0


def begin_choice(shell, calls, node):
    """Begin the test of an "if"."""
    shell.stack.append(('if', node))
    shell.stack.append(('begin', node[1]))


def go_choice(shell, calls, item):
    """Begin the part of an "if" that its test asks for."""
    node = item[1]
    if shell.code == 0:
        shell.stack.append(('begin', node[2]))
    elif node[3] is not None:
        shell.stack.append(('begin', node[3]))
    else:
        shell.code = 0


def begin_loop(shell, calls, node):
    """Begin the first test of a "while"."""
    test_again(shell, node, 0)


def test_again(shell, node, code):
    """Begin a test of a "while"; a code is that of its body so far."""
    shell.stack.append(('test', node, code))
    shell.stack.append(('begin', node[1]))


def go_test(shell, calls, item):
    """Begin the body of a "while" if its test asks for it."""
    word, node, code = item
    if shell.code == 0:
        shell.stack.append(('again', node))
        shell.stack.append(('begin', node[2]))
    else:
        shell.code = code


def go_again(shell, calls, item):
    """Begin the next test of a "while"."""
    test_again(shell, item[1], shell.code)


def begin_each(shell, calls, node):
    """Expand the words of a "for"."""
    shell.expand(node[2], True, ('each', node))


def follow_each(shell, calls, expansion, follow):
    """Begin a "for" with its fields."""
    shell.code = 0 if expansion.fields == [] else shell.code
    shell.stack.append(('for', follow[1], expansion.fields, 0))


def go_each(shell, calls, item):
    """Begin the body of a "for" with the next field."""
    word, node, fields, place = item
    if place < len(fields):
        shell.variables[node[1]] = fields[place]
        shell.stack.append((word, node, fields, place + 1))
        shell.stack.append(('begin', node[3]))


def begin_selection(shell, calls, node):
    """Expand the word of a "case"."""
    rows = [(pattern, body) for patterns, body in node[2] for pattern in patterns]
    shell.expand([node[1]], False, ('word', rows))


def follow_word(shell, calls, expansion, follow):
    """Look for the pattern that the word of a "case" matches."""
    shell.stack.append(('case', expansion.fields[0], follow[1], 0))


def go_selection(shell, calls, item):
    """Expand the next pattern of a "case"."""
    word, text, rows, place = item
    if place == len(rows):
        shell.code = 0
    else:
        shell.expand([rows[place][0]], False, ('pattern', item))


def follow_pattern(shell, calls, expansion, follow):
    """Begin the part of a "case" whose pattern matches, or look further."""
    word, text, rows, place = follow[1]
    if matches(text, expansion.rows[0]):
        shell.stack.append(('begin', rows[place][1]))
    else:
        shell.stack.append((word, text, rows, place + 1))


def begin_group(shell, calls, node):
    """Begin "{ list }"."""
    shell.redirected(node[2], ('begin', node[1]))


def begin_subshell(shell, calls, node):
    """Begin "(list)"."""
    shell.redirected(node[2], ('shell', node[1]))


def go_subshell(shell, calls, item):
    """Start a process for "(list)"."""
    shell.need_room(calls, 1)
    shell.stack.append(('wait', shell.start_shell(calls, item[1], calls.caller.table.copied())))


def define(shell, calls, node):
    """Define a function."""
    shell.functions[node[1]] = node[2]
    shell.code = 0


def begin_simple(shell, calls, node):
    """Expand the words of a simple command."""
    shell.output_code = None
    shell.expand(node[2], True, ('fields', node))


def follow_fields(shell, calls, expansion, follow):
    """Do what the fields of a simple command tell, without fields its assignments."""
    word, assignments, words, redirects = follow[1]
    fields = expansion.fields
    if fields == []:
        task = ('assign', assignments, False)
    elif fields[0] in shell.functions:
        task = ('call', shell.functions[fields[0]], fields)
    else:
        task = shell.program_task(calls, fields)
    if task is not None:
        shell.redirected(redirects, task)


def follow_redirects(shell, calls, expansion, follow):
    """Do a task with redirects; if one fails, assignments alone are done all the same."""
    word, redirects, task = follow
    if shell.redirect(calls, redirects, expansion.fields):
        shell.stack.append(task)
    elif task[0] == 'assign':
        shell.stack.append(('assign', task[1], True))


def restore(shell, calls, item):
    """Let descriptors lead to what they led to before redirects."""
    table = calls.caller.table
    calls.caller.table = item[1]
    table.close_all()


def go_assign(shell, calls, item):
    """Expand the word of the next assignment; after the last one the code is that of the last script put in."""
    word, assignments, has_failed = item
    if len(assignments) > 0:
        shell.expand([assignments[0][1]], False, ('value', item))
    elif has_failed:
        shell.code = 1
    else:
        shell.code = 0 if shell.output_code is None else shell.output_code


def follow_value(shell, calls, expansion, follow):
    """Assign a value, and go on with the next assignment."""
    word, assignments, has_failed = follow[1]
    shell.variables[assignments[0][0]] = expansion.fields[0]
    shell.stack.append((word, assignments[1:], has_failed))


def call(shell, calls, item):
    """Begin a function's body; what $1 and the others were comes back behind it."""
    word, body, fields = item
    shell.stack.append(('give back', shell.arguments()))
    shell.give(fields[1:])
    shell.stack.append(('begin', body))


def give_back(shell, calls, item):
    """Let $1 and the others be what they were before a function."""
    shell.give_back(item[1])


def start(shell, calls, item):
    """Start a program."""
    shell.need_room(calls, 1)
    shell.stack.append(('wait', calls.start(item[1], calls.caller.table.copied())))


def wait(shell, calls, item):
    """Wait for a process; its code is the last one then."""
    code = calls.wait(item[1])
    if code is None:
        shell.stack.append(item)
    else:
        shell.code = code


def go_expand(shell, calls, item):
    """Expand words up to a script whose output is wanted, or up to their end."""
    word, expansion, follow = item
    caller = calls.caller
    while not expansion.is_done():
        script = expansion.next_script()
        if script is not None:
            shell.stack.append(item)
            start_output(shell, calls, expansion, script)
            return
        expansion.go(shell.variables, shell.code,
                     lambda letters: matching_paths(calls.kernel.files, caller.folder, caller.user, letters))
    action = FOLLOWS[follow[0]]
    action(shell, calls, expansion, follow)


def start_output(shell, calls, expansion, script):
    """Start a script whose output is read through a pipe."""
    shell.need_room(calls, 1)
    pipe = Pipe(calls.kernel.pipe_size)
    table = calls.caller.table.copied()
    table.put(1, PipeEnd(pipe, True))
    child = shell.start_shell(calls, script, table)
    number = calls.caller.table.add(PipeEnd(pipe, False))
    shell.stack.append(('output', expansion, child, number, ''))


def read_output(shell, calls, item):
    """Read what a script writes."""
    word, expansion, child, number, text = item
    more = calls.read(number, MOST_AT_ONCE)
    if more is None:
        shell.stack.append(item)
    elif more != '':
        shell.stack.append((word, expansion, child, number, text + more))
    else:
        calls.close(number)
        shell.stack.append(('put in', expansion, text))
        shell.stack.append(('wait', child))


def put_in(shell, calls, item):
    """Put a script's output in, whose code is the last one now."""
    word, expansion, text = item
    shell.output_code = shell.code
    expansion.add(text.rstrip('\n'), expansion.part_here()[-1], True)


BEGINNINGS = {
    'list': begin_list, 'and': begin_chain, 'or': begin_chain, 'not': begin_not, 'pipe': begin_pipe,
    'back': begin_back, 'if': begin_choice, 'while': begin_loop, 'for': begin_each, 'case': begin_selection,
    'group': begin_group, 'shell': begin_subshell, 'define': define, 'simple': begin_simple,
}
ACTIONS = {
    'begin': go_begin, 'list': go_list, 'and': go_chain, 'or': go_chain, 'not': go_not, 'if': go_choice,
    'test': go_test, 'again': go_again, 'for': go_each, 'case': go_selection, 'shell': go_subshell,
    'restore': restore, 'assign': go_assign, 'call': call, 'give back': give_back, 'start': start, 'wait': wait,
    'expand': go_expand, 'output': read_output, 'put in': put_in,
}
FOLLOWS = {
    'each': follow_each, 'word': follow_word, 'pattern': follow_pattern, 'fields': follow_fields,
    'redirects': follow_redirects, 'value': follow_value,
}
