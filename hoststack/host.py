"""Host: a file system and a kernel that run scripts."""

from hoststack.errors import ShellError
from hoststack.files import make_files, mount
from hoststack.kernel import Kernel
from hoststack.layout import ROOT
from hoststack.names import tree_of
from hoststack.script import parse_script
from hoststack.shell import ShellProgram


class Result:
    """What a script wrote to the console, its code, and the number of steps of all processes."""

    def __init__(self, text, code, steps):
        self.text = text
        self.code = code
        self.steps = steps

    def shown(self):
        """Return (text, code)."""
        return (self.text, self.code)


class Host:
    """A mounted file system, and how kernels are made: frames, the size of pipes, and the user.

    Each script runs in a kernel of its own; the last one is kept, None before the first.
    """

    def __init__(self, files, frames=8, pipe_size=16, user=0):
        self.files = files
        self.frames = frames
        self.pipe_size = pipe_size
        self.user = user
        self.kernel = None

    def run(self, text, choices=(), entered='', most=100000):
        """Run a script to the end of all its processes and return the result; raise ShellError or StuckError."""
        node = parse_script(text)
        kernel = Kernel(self.files, self.frames, self.pipe_size, entered)
        self.kernel = kernel
        # A process without a parent is forgotten when it ends, so it is kept here for its code.
        process = kernel.process(kernel.start(ShellProgram(node), kernel.console_table(), ROOT, self.user))
        kernel.run(choices, most)
        return Result(kernel.console.written, process.code, kernel.steps)

    def is_script(self, text):
        """Return True if a text is a script."""
        try:
            parse_script(text)
        except ShellError:
            return False
        return True

    def tree(self):
        """Return what the file system holds."""
        return tree_of(self.files)


def new_host(device, inodes=64, capacity=16):
    """Return a host over a device with a new file system."""
    return Host(make_files(device, inodes, capacity))


def host_of(device, capacity=16):
    """Return a host over the file system of a device, also after a crash."""
    return Host(mount(device, capacity))
