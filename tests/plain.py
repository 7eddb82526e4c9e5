"""A plain carrying out of scripts, one command after another, and scripts by chance for it.

There are no processes here but one for each tool: of a pipeline, a command begins when the one before it has ended, and
what is done in the background is done at once.
"""

from hoststack.code import assemble
from hoststack.errors import FileError
from hoststack.expand import Expansion, matches, matching_paths
from hoststack.filetools import is_tool, make_tool
from hoststack.inode import FOLDER, may
from hoststack.kernel import Kernel
from hoststack.machine import load_program
from hoststack.opened import Console, Nothing, OpenFile, Table
from hoststack.script import parse_script

BUILT_IN = (':', 'cd', 'exit', 'read', 'wait')
ADD = '#code\nback:\nask r0\nset r2 -1\nsame r2 r2 r0\njumpif r2 end\nadd r1 r1 r0\njump back\nend:\nsay r1\n'
TWO = ('#code\nset r5 7\nstore r0 r5\nfork r1\njumpif r1 parent\nset r6 9\nstore r0 r6\nexit r6\n'
       'parent:\nwait r2\nload r7 r0\nsay r7\nsay r2\n')
FAULT = '#code\nset r1 5\nsay r1\ndiv r1 r1 r0\n'


class Exit(Exception):
    """A shell ends with a code."""


class Plain:
    """Files, where descriptors lead, a folder, variables, functions and the last code."""

    def __init__(self, files, table, user=0):
        self.files = files
        self.table = table
        self.user = user
        self.folder = 1
        self.variables = {}
        self.functions = {}
        self.code = 0

    def child(self, table):
        found = Plain(self.files, table, self.user)
        found.folder, found.code = self.folder, self.code
        found.variables, found.functions = dict(self.variables), dict(self.functions)
        return found

    def run_child(self, node, table):
        """Carry out a command apart, and return its code."""
        child = self.child(table)
        try:
            child.go(node)
        except Exit as end:
            child.code = end.args[0]
        table.close_all()
        return child.code

    def go(self, node):
        getattr(self, 'go_' + node[0])(*node[1:])

    def go_list(self, nodes):
        for node in nodes:
            self.go(node)

    def go_and(self, one, other):
        self.go(one)
        if self.code == 0:
            self.go(other)

    def go_or(self, one, other):
        self.go(one)
        if self.code != 0:
            self.go(other)

    def go_not(self, node):
        self.go(node)
        self.code = int(self.code == 0)

    def go_back(self, node):
        self.run_child(node, self.table.copied())
        self.code = 0

    def go_pipe(self, nodes):
        before = None
        code = 0
        for place, node in enumerate(nodes):
            table = self.table.copied()
            if before is not None:
                table.put(0, Console(before.written))
            before = Console()
            if place < len(nodes) - 1:
                table.put(1, before)
            code = self.run_child(node, table)
        self.code = code

    def go_if(self, test, then, other):
        self.go(test)
        if self.code == 0:
            self.go(then)
        elif other is not None:
            self.go(other)
        else:
            self.code = 0

    def go_while(self, test, body):
        code = 0
        self.go(test)
        while self.code == 0:
            self.go(body)
            code = self.code
            self.go(test)
        self.code = code

    def go_for(self, name, words, body):
        fields = self.fields(words)
        if fields == []:
            self.code = 0
        for field in fields:
            self.variables[name] = field
            self.go(body)

    def go_case(self, word, rows):
        text = self.fields([word], False)[0]
        for patterns, body in rows:
            for pattern in patterns:
                if matches(text, self.expanded([pattern], False).rows[0]):
                    self.go(body)
                    return
        self.code = 0

    def go_define(self, name, body):
        self.functions[name] = body
        self.code = 0

    def go_group(self, body, redirects):
        self.redirected(redirects, lambda: self.go(body))

    def go_shell(self, body, redirects):
        def apart():
            self.code = self.run_child(body, self.table.copied())
        self.redirected(redirects, apart)

    def go_simple(self, assignments, words, redirects):
        self.heard = None
        fields = self.fields(words)
        if fields == []:
            done = self.redirected(redirects, lambda: None)
            for name, word in assignments:
                self.variables[name] = self.fields([word], False)[0]
            self.code = (self.heard or 0) if done else 1
            return
        deed = self.deed_of(fields)
        if deed is not None:
            self.redirected(redirects, deed)

    def deed_of(self, fields):
        """Return what carries out fields, None for a program that cannot be run."""
        if fields[0] in self.functions:
            return lambda: self.call(fields)
        if fields[0] in BUILT_IN:
            return lambda: self.built_in(*fields)
        if is_tool(fields[0]):
            return lambda: self.run_program(lambda kernel: make_tool(fields))
        try:
            number = self.files.resolve(fields[0], self.folder, self.user)
            inode = self.files.file_inode(number)
            if not may(inode, self.user, 'x'):
                raise FileError('denied')
        except FileError as error:
            self.complain(fields[0], error.word, 127 if error.word == 'missing' else 126)
            return None
        rows = assemble(self.files.read(number, 0, inode.size))
        return lambda: self.run_program(lambda kernel: load_program(kernel, rows))

    def run_program(self, maker):
        """Run a program in a kernel of its own."""
        kernel = Kernel(self.files)
        process = kernel.process(kernel.start(maker(kernel), self.table.copied(), self.folder, self.user))
        kernel.run(())
        self.code = process.code

    def call(self, fields):
        before = {name: self.variables.pop(name, None) for name in '123456789#'}
        self.variables.update({str(place + 1): word for place, word in enumerate(fields[1:10])})
        self.variables['#'] = str(len(fields) - 1)
        self.go(self.functions[fields[0]])
        for name, worth in before.items():
            self.variables.pop(name, None)
            if worth is not None:
                self.variables[name] = worth

    def built_in(self, name, *words):
        if name == 'exit':
            raise Exit(int(words[0]) % 256 if words else self.code)
        self.code = 0
        if name == 'cd':
            self.change_folder(words[0] if words else '/')
        if name == 'read':
            text, letter = '', None
            while letter not in ('', '\n'):
                letter = self.table.opened(0).take(1)
                text += letter
            self.variables[words[0]] = text.rstrip('\n')
            self.code = int(text == '')

    def change_folder(self, path):
        try:
            number = self.files.resolve(path, self.folder, self.user)
            if self.files.blocks.inode(number).kind != FOLDER:
                raise FileError('not a folder')
            self.folder = number
        except FileError as error:
            self.complain('cd', error.word, 1)

    def complain(self, name, word, code):
        self.table.opened(2).give(f'{name}: {word}\n')
        self.code = code

    def redirected(self, redirects, deed):
        """Carry out a deed with redirects, and return whether they could be done."""
        paths = self.fields([word for sign, word in redirects], False)
        before = self.table
        self.table = before.copied()
        try:
            for (sign, word), path in zip(redirects, paths):
                self.table.put({'<': 0, '2>': 2}.get(sign, 1), self.opened(sign, path))
        except FileError as error:
            self.complain('shell', error.word, 1)
            deed = None
        try:
            if deed is not None:
                deed()
        finally:
            self.table.close_all()
            self.table = before
        return deed is not None

    def opened(self, sign, path):
        if path == '/dev/null':
            return Nothing()
        files = self.files
        try:
            number = files.resolve(path, self.folder, self.user)
            inode = files.file_inode(number)
            if not may(inode, self.user, 'r' if sign == '<' else 'w'):
                raise FileError('denied')
        except FileError as error:
            if error.word != 'missing' or sign == '<':
                raise
            number = files.create(path, self.folder, self.user)
        if sign in ('>', '2>'):
            files.cut(number, 0)
        return OpenFile(files, number, sign == '<', sign != '<', sign == '>>')

    def fields(self, words, splits=True):
        return self.expanded(words, splits).fields

    def expanded(self, words, splits):
        expansion = Expansion(words, splits)
        while not expansion.is_done():
            script = expansion.next_script()
            if script is None:
                expansion.go(self.variables, self.code,
                             lambda letters: matching_paths(self.files, self.folder, self.user, letters))
            else:
                table = self.table.copied()
                output = Console()
                table.put(1, output)
                self.code = self.heard = self.run_child(script, table)
                expansion.add(output.written.rstrip('\n'), expansion.part_here()[-1], True)
        return expansion


def carried_out(files, text, entered, user=0):
    """Return (text, code) of a script that is carried out plainly."""
    console = Console(entered)
    table = Table()
    for number in range(3):
        table.put(number, console)
    plain = Plain(files, table, user)
    try:
        plain.go(parse_script(text))
    except Exit as end:
        plain.code = end.args[0]
    table.close_all()
    return console.written, plain.code


class Maker:
    """Makes scripts of which no two processes that run together use what one of them changes."""

    def __init__(self, chance):
        self.chance = chance
        self.counters = 0

    def pick(self, *rows):
        return self.chance.choice(rows)

    def word(self, depth, files):
        kind = self.chance.randrange(12)
        if kind == 0 and depth > 0:
            return self.pick('$( {})', '"$( {})"', 'a$( {})b').format(self.commands(depth - 1, files, True, False))
        if kind == 1:
            return self.pick('$((x + 1))', '$((y * 7 mod 5))', '$((x < y))', '"$((x - y))"', '$((x / y))')
        if kind == 2:
            return self.pick('b c', 'one two', 'a -v')
        return self.plain_word()

    def output(self, depth, files):
        return '$( ' + self.commands(depth - 1, files, True, False) + ')' if depth > 0 else '$((x * 3))'

    def plain_word(self):
        return self.pick('a', 'b', '12', '"p  q"', "'*'", '$x', '"$y"', '${z}s', '$?', '$1$#', '""', '$none', 'w"$x"\\ $y', '-v')

    def words(self, depth, files):
        return ' '.join(self.word(depth, files) for _ in range(self.chance.randint(0, 3)))

    def redirects(self, files):
        if self.chance.random() < 0.7:
            return ''
        sign = self.pick('<', '>', '>>', '2>', '>', '>>')
        path = self.pick(*files) if files and self.chance.random() < 0.85 else '/dev/null'
        if self.chance.random() < 0.05:
            path = self.pick('/none/x', '/d', '$none')
        return f' {sign} {path}'

    def simple(self, depth, files, may_exit, is_alone):
        kind = self.chance.randrange(15)
        path = self.pick(*files) if files else '/dev/null'
        other = self.pick(*files) if files else '/dev/null'
        if kind < 4:
            return 'echo ' + self.words(depth, files) + self.redirects(files)
        if kind == 4:
            return self.pick('x', 'y', 'z') + '=' + self.pick('1', '-3', '"a b"', '', self.plain_word(), self.output(depth, files))
        if kind == 5:
            return 'read ' + self.pick('x', 'y', 'z') + self.pick('', f' < {path}')
        if kind == 6:
            return self.pick('cat', 'sort', 'wc', 'uniq -c', 'rev', 'grep a', 'sort -r', 'tail -2', 'sum', '/bin/add') + self.pick(' < ', ' < ', ' ') + path
        if kind == 7:
            return self.pick('true', 'false', ':', 'test $x = a', 'test -f ' + path, 'nothing', 'wait', '/bin/two', '/bin/fault', '/bin')
        if kind == 8:
            return self.pick('touch ' + path, 'rm ' + path, f'cp {path} {other}', f'mv {path} {other}', f'cmp {path} {other}')
        if kind == 9:
            return 'seq ' + self.pick('1 3', '3 1', '$x $y', '1 30') + self.redirects(files)
        if kind == 10:
            return self.pick('f', 'g') + ' ' + self.words(depth, files) + self.redirects(files)
        if kind == 11 and is_alone:
            return self.pick('echo /*', 'cd /d', 'cd', 'cd none', 'ls /', 'ls', 'find /d', 'mkdir /d/n', 'rmdir /d/n', 'echo ?', 'ls -l /d')
        if kind == 12 and may_exit and self.chance.random() < 0.3:
            return 'exit ' + self.pick('', '3', '300')
        return 'cat ' + path + self.redirects(files)

    def command(self, depth, files, may_exit, is_alone):
        if depth == 0 or self.chance.random() < 0.4:
            return self.simple(depth, files, may_exit, is_alone)
        kind = self.chance.randrange(10)

        def commands(ends=may_exit, alone=is_alone, own=files):
            return self.commands(depth - 1, own, ends, alone)

        if kind < 2:
            # What a whole list reads or writes by a redirect is not for its processes to use beside it.
            redirects = self.redirects(files)
            own = [path for path in files if path not in redirects.split()]
            return (f'{{ {commands(own=own)}; }}' if kind == 0 else f'( {commands(True, own=own)} )') + redirects
        if kind == 2:
            return f'if {commands()}; then {commands()}; ' + self.pick('', f'else {commands()}; ', f'elif {commands()}; then {commands()}; ') + 'fi'
        if kind == 3:
            self.counters += 1
            name = f'n{self.counters}'
            return f'{name}=0; while test ${name} -lt {self.pick(0, 1, 3)}; do {name}=$(({name} + 1)); {commands()}; done'
        if kind == 4:
            return f'for x in {self.words(depth - 1, files)}; do {commands()}; done'
        if kind == 5:
            rows = ' '.join(f'({self.pick("a", "*b*", "?", "12", "$y", "a*|1*")}) {commands()};;' for _ in range(self.chance.randint(1, 3)))
            return f'case {self.plain_word()} in {rows} esac'
        if kind == 6:
            body = self.commands(0, [], False, False)
            return f'{self.pick("f", "g")}() {{ {self.pick("echo in $1 $#", "x=$1", ":")}; {body.replace("f ", "echo ").replace("g ", "echo ")}; }}'
        if kind == 7:
            return f'{commands()} ' + self.pick('&&', '||') + ' ' + self.simple(0, files, may_exit, is_alone)
        if kind == 8:
            return self.pipeline(depth, files)
        return self.background(depth, files)

    def shares(self, files, many):
        """Return files parted among several."""
        rows = list(files)
        self.chance.shuffle(rows)
        return [rows[place::many] for place in range(many)]

    def pipeline(self, depth, files):
        shares = self.shares(files, self.pick(2, 2, 3))
        members = []
        for place, own in enumerate(shares):
            told = own.pop() if own else '/dev/null'
            body = self.commands(depth - 1, own, False, False)
            # A command reads all that comes, so that no write finds no reader.
            members.append(f'{{ {body}; {"cat;" if place > 0 else ""} }} 2> {told}')
        return self.pick('', '! ') + ' | '.join(members)

    def background(self, depth, files):
        one, other = self.shares(files, 2)
        told = one.pop() if one else '/dev/null'
        wrong = one.pop() if one else '/dev/null'
        body = self.commands(depth - 1, one, True, False)
        rest = self.commands(depth - 1, other, False, False)
        return f'{{ {body}; }} > {told} 2> {wrong} < /dev/null & {rest}; wait'

    def commands(self, depth, files, may_exit, is_alone):
        return '; '.join(self.command(depth, files, may_exit, is_alone) for _ in range(self.pick(1, 1, 2, 3)))


def chance_script(chance, depth):
    """Return a script by chance."""
    maker = Maker(chance)
    files = [f'/d/{name}' for name in 'abcdefgh']
    return 'f() { echo f $1; }; g() { x=$1$#; }; ' + '; '.join(maker.command(depth, files, True, True) for _ in range(4))
