"""Machine: processes that run code in memories of their own."""

from hoststack.code import number_in, wrapped
from hoststack.errors import FileError
from hoststack.paging import Space

DIVISION_CODE = 136
ADDRESS_CODE = 139
CODES = 256
MOST_CODE = 5000


class Machine:
    """Rows, the place of the next one, registers, a memory, and what is still to be written or was read of a line."""

    def __init__(self, rows, memory):
        self.rows = rows
        self.place = 0
        self.registers = [0] * 8
        self.memory = memory
        self.unsaid = ''
        self.line = ''

    def step(self, calls):
        """Write what a row said, or carry out the next row; return the code if the process ends."""
        if self.unsaid != '':
            many = calls.write(1, self.unsaid)
            if many is not None:
                self.unsaid = self.unsaid[many:]
            return None
        if self.place == len(self.rows):
            return 0
        row = self.rows[self.place]
        action = ACTIONS[row[0]]
        return action(self, calls, row)

    def leave(self):
        """Give the memory back."""
        self.memory.pager.release(self.memory)

    def put(self, result, number):
        """Change a register, and go on to the next row."""
        self.registers[result] = wrapped(number)
        self.place = self.place + 1

    def forked(self):
        """Return a machine that is where this one is, with a memory of the same words."""
        found = Machine(self.rows, self.memory.forked())
        found.place = self.place
        found.registers = list(self.registers)
        return found


def set_number(machine, calls, row):
    """Set a register to a number."""
    machine.put(row[1], row[2])


def copy(machine, calls, row):
    """Copy a register."""
    machine.put(row[1], machine.registers[row[2]])


def reckon(machine, calls, row):
    """Put the result of two registers into a third one; end with a code for a division by zero."""
    word, result, first, second = row
    one = machine.registers[first]
    other = machine.registers[second]
    if word in ('div', 'mod') and other == 0:
        return DIVISION_CODE
    machine.put(result, result_of(word, one, other))
    return None


def result_of(word, one, other):
    """Return the result of two numbers."""
    if word == 'add':
        return one + other
    if word == 'sub':
        return one - other
    if word == 'mul':
        return one * other
    if word == 'div':
        return one // other
    if word == 'mod':
        return one % other
    holds = one < other if word == 'less' else one == other
    return 1 if holds else 0


def load(machine, calls, row):
    """Load the word at an address."""
    machine.put(row[1], machine.memory.load_word(machine.registers[row[2]]))


def store(machine, calls, row):
    """Store a word at an address."""
    machine.memory.store_word(machine.registers[row[1]], machine.registers[row[2]])
    machine.place = machine.place + 1


def jump(machine, calls, row):
    """Go on at another row."""
    machine.place = row[1]


def jump_if(machine, calls, row):
    """Go on at another row unless a register is 0."""
    machine.place = machine.place + 1 if machine.registers[row[1]] == 0 else row[2]


def say(machine, calls, row):
    """Let a register's number be written in the next step."""
    machine.unsaid = str(machine.registers[row[1]]) + '\n'
    machine.place = machine.place + 1


def ask(machine, calls, row):
    """Read a character of a line; at its end, a register gets the line's number."""
    letter = calls.read(0, 1)
    if letter is None:
        return
    if letter not in ('', '\n'):
        machine.line = machine.line + letter
        return
    number = number_in(machine.line)
    if letter == '' and machine.line == '':
        number = -1
    machine.put(row[1], 0 if number is None else number)
    machine.line = ''


def fork(machine, calls, row):
    """Start a child that goes on at the next row."""
    number = -1
    if calls.kernel.has_room():
        child = machine.forked()
        child.put(row[1], 0)
        number = calls.start(child, calls.caller.table.copied())
    machine.put(row[1], number)


def wait(machine, calls, row):
    """Wait for a child's code."""
    found = calls.wait_any()
    if found is not None:
        number, code = found
        machine.put(row[1], -1 if number == 0 else code)


def end(machine, calls, row):
    """End with a register's code."""
    return machine.registers[row[1]] % CODES


def grow(machine, calls, row):
    """Add pages to the memory."""
    machine.memory.grow(machine.registers[row[1]])
    machine.place = machine.place + 1


def tell_number(machine, calls, row):
    """Tell the number of the process."""
    machine.put(row[1], calls.caller.number)


ACTIONS = {
    'set': set_number, 'copy': copy, 'add': reckon, 'sub': reckon, 'mul': reckon, 'div': reckon, 'mod': reckon,
    'less': reckon, 'same': reckon, 'load': load, 'store': store, 'jump': jump, 'jumpif': jump_if, 'say': say,
    'ask': ask, 'fork': fork, 'wait': wait, 'exit': end, 'grow': grow, 'pid': tell_number,
}


def load_program(kernel, rows):
    """Return a program of rows with a memory of one page."""
    return Machine(rows, Space(kernel.pager, 1))


def is_fault(code):
    """Return True if a process's code tells that it was ended for a fault of its own."""
    return code in (DIVISION_CODE, ADDRESS_CODE)


def file_text(files, number):
    """Return the whole text of a file; raise FileError for another inode."""
    inode = files.file_inode(number)
    if inode.size > MOST_CODE:
        raise FileError('too large')
    return files.read(number, 0, inode.size)
