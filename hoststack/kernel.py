"""Kernel: processes that go on one step at a time, and the calls by which they use files, pipes and each other.

A program has a method step(calls), which goes on one step and returns the code with which the process ends, None if it
goes on; and a method leave(), which gives back what the program has when its process ends.
"""

from hoststack.errors import DeviceError, FileError, HostError, PipeError, ProcessError, StuckError
from hoststack.inode import FOLDER
from hoststack.layout import ROOT
from hoststack.opened import Console, Nothing, OpenFile, Table
from hoststack.paging import Pager

MOST_PROCESSES = 60
FAULT_CODE = 139
KILLED_CODE = 137
BROKEN_CODE = 141
NOTHING_PATH = '/dev/null'


class Process:
    """A process: its number, its parent's, its program, descriptors, folder, user, and what it waits for.

    It waits for ("read", descriptor), ("write", descriptor), ("child", number) or ("children", 0); None is for nothing.
    """

    def __init__(self, number, parent, program, table, folder, user):
        self.number = number
        self.parent = parent
        self.program = program
        self.table = table
        self.folder = folder
        self.user = user
        self.code = None
        self.waits = None
        self.steps = 0


class Kernel:
    """Files, processes by number, frames for memories, and the console."""

    def __init__(self, files, frames=8, pipe_size=16, entered=''):
        self.files = files
        self.processes = {}
        self.last = 0
        self.pager = Pager(frames)
        self.pipe_size = pipe_size
        self.console = Console(entered)
        self.steps = 0

    def console_table(self):
        """Return descriptors 0, 1 and 2 that lead to the console."""
        table = Table()
        for number in range(3):
            table.put(number, self.console)
        return table

    def start(self, program, table, folder=ROOT, user=0, parent=0):
        """Start a process and return its number; raise ProcessError if there are 60."""
        if not self.has_room():
            raise ProcessError('there are too many processes')
        self.last = self.last + 1
        self.processes[self.last] = Process(self.last, parent, program, table, folder, user)
        self.files.hold(folder)
        return self.last

    def has_room(self):
        """Return True if another process may start."""
        return self.room() > 0

    def room(self):
        """Return how many more processes may start."""
        return MOST_PROCESSES - len(self.processes)

    def process(self, number):
        """Return a process; raise ProcessError for an unknown one."""
        if number not in self.processes:
            raise ProcessError('there is no such process')
        return self.processes[number]

    def children(self, number):
        """Return the numbers of a process's children, in ascending order."""
        return [child for child in sorted(self.processes) if self.processes[child].parent == number]

    def ended_children(self, number):
        """Return the numbers of a process's children that have ended, in ascending order."""
        return [child for child in self.children(number) if self.processes[child].code is not None]

    def can_go(self, process):
        """Return True if a process is alive, not stopped, and need not wait any more."""
        if process.code is not None:
            return False
        if process.waits is None:
            return True
        word, number = process.waits
        if word == 'child':
            return self.process(number).code is not None
        if word == 'children':
            return self.ended_children(process.number) != []
        return process.table.opened(number).may_go(word == 'write')

    def ready(self):
        """Return the numbers of the processes that can go on, in ascending order."""
        return [number for number in self.alive() if self.can_go(self.processes[number])]

    def alive(self):
        """Return the numbers of the processes that have not ended, in ascending order."""
        return [number for number in sorted(self.processes) if self.processes[number].code is None]

    def step(self, number):
        """Let a process go on one step; raise ProcessError if it cannot."""
        process = self.process(number)
        if not self.can_go(process):
            raise ProcessError('the process waits')
        process.waits = None
        process.steps = process.steps + 1
        self.steps = self.steps + 1
        code = self.code_after_step(process)
        if code is not None:
            self.end(process, code)

    def code_after_step(self, process):
        """Let a process go on; return the code with which it ends, None if it does not."""
        try:
            return process.program.step(Calls(self, process))
        except PipeError:
            return BROKEN_CODE
        except DeviceError:
            raise
        except HostError:
            return FAULT_CODE

    def end(self, process, code):
        """End a process with a code: its descriptors are closed, its children lose their parent."""
        process.program.leave()
        process.table.close_all()
        self.files.let_go(process.folder)
        process.code = code
        process.waits = None
        for number in self.children(process.number):
            self.processes[number].parent = 0
            self.forget_ended(number)
        self.forget_ended(process.number)

    def forget_ended(self, number):
        """Forget a process that has ended if it has no parent who may hear of it."""
        process = self.processes[number]
        if process.parent == 0 and process.code is not None:
            del self.processes[number]

    def kill(self, number):
        """End a process from outside; raise ProcessError for one that is not alive."""
        process = self.process(number)
        if process.code is not None:
            raise ProcessError('the process has ended')
        self.end(process, KILLED_CODE)

    def run(self, choices, most=100000):
        """Let processes go on until none is alive; a choice tells which of the ready ones, in turn after all choices.

        Return the number of steps; raise StuckError if none can go on, or after so many steps; all are killed then.
        """
        place = 0
        while self.alive() != []:
            ready = self.ready()
            if ready == [] or place >= most:
                self.kill_all()
                raise StuckError('no process can go on')
            choice = choices[place] if place < len(choices) else self.steps
            self.step(ready[choice % len(ready)])
            place = place + 1
        return place

    def kill_all(self):
        """Kill all processes that are alive."""
        for number in self.alive():
            self.kill(number)


class Calls:
    """The calls of a process."""

    def __init__(self, kernel, process):
        self.kernel = kernel
        self.caller = process

    def read(self, number, many):
        """Return at most so many characters from a descriptor, "" at the end, None if the process has to wait."""
        found = self.caller.table.opened(number).take(many)
        if found is None:
            self.caller.waits = ('read', number)
        return found

    def write(self, number, text):
        """Return how many characters went to a descriptor, None to wait; raise PipeError "broken"."""
        opened = self.caller.table.opened(number)
        if text != '' and not opened.may_go(True):
            self.caller.waits = ('write', number)
            return None
        given = opened.give(text)
        # The console and nothing take all and tell no number.
        return len(text) if given is None else given

    def close(self, number):
        """Close a descriptor."""
        self.caller.table.close(number)

    def start(self, program, table):
        """Start a child with descriptors and return its number."""
        return self.kernel.start(program, table, self.caller.folder, self.caller.user, self.caller.number)

    def wait(self, number):
        """Return the code of a child that has ended, which is gone then, None if the process has to wait.

        Raise ProcessError for a process that is no child.
        """
        child = self.kernel.process(number)
        if child.parent != self.caller.number:
            raise ProcessError('the process is no child')
        if child.code is None:
            self.caller.waits = ('child', number)
            return None
        del self.kernel.processes[number]
        return child.code

    def wait_any(self):
        """Return (number, code) of the first child that has ended, (0, 0) without children, None to wait."""
        ended = self.kernel.ended_children(self.caller.number)
        if ended != []:
            return (ended[0], self.wait(ended[0]))
        if self.kernel.children(self.caller.number) == []:
            return (0, 0)
        self.caller.waits = ('children', 0)
        return None

    def file_at(self, path, wanted):
        """Return the inode number of a file that the process may read or write: "r" or "w"."""
        files = self.kernel.files
        number = files.resolve(path, self.caller.folder, self.caller.user)
        files.file_inode(number)
        files.need(number, self.caller.user, wanted)
        return number

    def open_to_read(self, path):
        """Return a new descriptor that leads to a file to be read."""
        return self.caller.table.add(self.readable(path))

    def readable(self, path):
        """Return what a path leads to, opened to be read."""
        if path == NOTHING_PATH:
            return Nothing()
        return OpenFile(self.kernel.files, self.file_at(path, 'r'), True, False, False)

    def open_to_write(self, path, appends):
        """Return a new descriptor that leads to a file to be written."""
        return self.caller.table.add(self.writable(path, appends))

    def writable(self, path, appends):
        """Return what a path leads to, opened to be written.

        A missing file is made; one that is there is emptied, unless writes go to its end.
        """
        files = self.kernel.files
        if path == NOTHING_PATH:
            return Nothing()
        try:
            number = self.file_at(path, 'w')
        except FileError as error:
            if error.word != 'missing':
                raise
            number = files.create(path, self.caller.folder, self.caller.user)
        if not appends:
            files.cut(number, 0)
        return OpenFile(files, number, False, True, appends)

    def enter(self, path):
        """Let a path be the process's folder."""
        files = self.kernel.files
        number = files.resolve(path, self.caller.folder, self.caller.user)
        if files.blocks.inode(number).kind != FOLDER:
            raise FileError('not a folder')
        files.need(number, self.caller.user, 'x')
        files.hold(number)
        files.let_go(self.caller.folder)
        self.caller.folder = number
