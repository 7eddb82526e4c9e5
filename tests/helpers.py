"""What several tests share: devices, file systems, and what must hold of every file system."""

import unittest

from hoststack.check import check
from hoststack.device import Device
from hoststack.errors import FileError
from hoststack.files import make_files
from hoststack.filetools import make_tool
from hoststack.host import new_host
from hoststack.inode import FOLDER, FREE
from hoststack.kernel import Kernel
from hoststack.opened import Console, PipeEnd, Table
from hoststack.pipe import Pipe


def new_files(block_size=64, count=400, inodes=64, capacity=16):
    return make_files(Device(block_size, count), inodes, capacity)


def in_operation(files, deed):
    files.cache.begin()
    found = deed()
    files.cache.end()
    return found


def damage(files, number, **fields):
    """Change fields of an inode in the table, and nothing else."""
    inode = files.blocks.inode(number)
    for name, worth in fields.items():
        setattr(inode, name, worth)
    in_operation(files, lambda: files.blocks.put_inode(number, inode))


def set_entries(files, number, entries):
    """Change the names of a folder, and nothing else."""
    in_operation(files, lambda: files.put_entries(number, entries))


def inodes_of(files):
    return [files.blocks.inode(number) for number in range(files.layout.inodes)]


def free_inodes(files):
    return [inode.kind for inode in inodes_of(files)].count(FREE) - 1


def contents(files):
    """Return the rows, free blocks, inodes and bitmap of a file system: all that a refused deed must leave alone."""
    bitmap = tuple(files.blocks.is_used(number) for number in range(files.layout.total))
    inodes = tuple(inode.shown() for inode in inodes_of(files))
    data = tuple(files.blocks.read_data(inode, 0, inode.size) for inode in inodes_of(files))
    return (inodes, data, bitmap, files.blocks.free_count(), dict(files.holding))


def faults_of(files):
    """Return what does not agree in a file system, in words; what a free inode tells does not count."""
    found = []
    names = {1: 1}
    used = set(range(files.layout.data_start))
    for number, inode in enumerate(inodes_of(files)):
        if inode.kind == FOLDER and number > 0:
            for child in files.entries(number).values():
                names[child] = names.get(child, 0) + 1
        for block in files.blocks.blocks_of(inode) if number > 0 and inode.kind != FREE else []:
            if block in used or not files.layout.data_start <= block < files.layout.total:
                found.append(f"block {block} of inode {number}")
            used.add(block)
    for number, inode in list(enumerate(inodes_of(files)))[1:]:
        if inode.kind == FREE and number in names:
            found.append(f"free inode {number}")
        if inode.kind != FREE and inode.links != names.get(number, 0):
            found.append(f"links of inode {number}")
        if inode.kind != FREE and inode.links == 0 and files.holding.get(number, 0) == 0:
            found.append(f"lost inode {number}")
    for block in range(files.layout.total):
        if files.blocks.is_used(block) != (block in used):
            found.append(f"bitmap of block {block}")
    return found


def word_of(deed):
    """Return the word of the FileError that a deed raises, None if it raises none."""
    try:
        deed()
    except FileError as error:
        return error.word
    return None


def loss_patterns(many):
    """Return choices for so many waiting writes: all alike, each one unlike the others, and by turns."""
    patterns = [(), (1,) * many, (2,) * many]
    for common in (0, 1, 2):
        for other in (0, 1, 2):
            for place in range(many):
                if common != other:
                    patterns.append((common,) * place + (other,) + (common,) * (many - place - 1))
    patterns.append(tuple(place % 2 for place in range(many)))
    patterns.append(tuple(place % 3 for place in range(many)))
    patterns.append(tuple((place + 1) % 3 for place in range(many)))
    return sorted(set(patterns))


class TextsCase(unittest.TestCase):
    """Files with texts."""

    def put(self, path, text, **more):
        """Make a file with a text."""
        number = self.files.create(path, **more)
        for place in range(0, len(text), 200):
            self.files.write(number, place, text[place:place + 200])
        return number

    def text(self, path):
        number = self.files.resolve(path)
        return self.files.read(number, 0, self.files.blocks.inode(number).size)


class ToolCase(TextsCase):
    """Tools as processes of a kernel, with a pipe or the console behind their descriptors."""

    def setUp(self):
        self.files = new_files(64, 600)

    def run_tool(self, words, entered='', choices=(), **more):
        """Return (what descriptor 1 got, what descriptor 2 got, the code) of a tool."""
        words = words.split() if isinstance(words, str) else words
        kernel = Kernel(self.files, entered=entered)
        shown, told = Console(), Console()
        table = Table()
        table.put(0, kernel.console)
        table.put(1, shown)
        table.put(2, told)
        process = kernel.process(kernel.start(make_tool(words), table, **more))
        kernel.run(choices)
        self.assertEqual((kernel.console.written, self.files.holding), ('', {}))
        return shown.written, told.written, process.code

    def most_at_once(self, words):
        """Return the most characters that a tool writes at a step."""
        pipe = Pipe(1000)
        PipeEnd(pipe, False)
        kernel = Kernel(self.files)
        table = kernel.console_table()
        table.put(1, PipeEnd(pipe, True))
        number = kernel.start(make_tool(words), table)
        most = 0
        while kernel.alive() != []:
            before = pipe.passed
            kernel.step(number)
            most = max(most, pipe.passed - before)
            pipe.text = ''
        return most

    def gives(self, words, found, entered='', code=0, told='', **more):
        """Check what a tool writes, that it complains of nothing, and its code."""
        self.assertEqual(self.run_tool(words, entered, **more), (found, told, code), words)

    def refuses(self, *rows):
        """Check that words do not fit."""
        for words in rows:
            words = words.split() if isinstance(words, str) else words
            self.assertEqual(self.run_tool(words, 'entered\n'), ('', words[0] + ': bad arguments\n', 1), words)

    def shown(self, words, entered='', **more):
        """Return what the console shows of a tool, complaints too, and its code."""
        words = words.split() if isinstance(words, str) else words
        kernel = Kernel(self.files, entered=entered)
        process = kernel.process(kernel.start(make_tool(words), kernel.console_table(), **more))
        kernel.run(())
        return kernel.console.written, process.code


class HostCase(TextsCase):
    """Scripts that a host runs; after each there is nothing left of them but files."""

    def setUp(self):
        self.host = new_host(Device(128, 900), 200)
        self.files = self.host.files

    def run_script(self, script, **more):
        """Return (text, code) of a script."""
        result = self.host.run(script, **more)
        self.check_end()
        return result.shown()

    def check_end(self):
        """Check that no process, open file, frame or swapped page is left, and that the file system is in order."""
        kernel = self.host.kernel
        self.assertEqual((kernel.processes, self.files.holding, kernel.pager.swapped), ({}, {}, {}))
        self.assertEqual([frame for frame in kernel.pager.frames if frame is not None], [])
        check(self.files)

    def gives(self, script, text, code=0, **more):
        """Check what a script writes to the console, and its code."""
        self.assertEqual(self.run_script(script, **more), (text, code), script)

    def names(self, path='/'):
        return self.files.list_folder(path)


class FilesCase(unittest.TestCase):
    def setUp(self):
        self.files = new_files(64, 400)

    def tearDown(self):
        self.assertEqual(faults_of(self.files), [])
        self.assertIsNone(self.files.cache.before)

    def refused(self, word, deed, *more):
        """Check that a deed is refused with a word and changes nothing."""
        before = contents(self.files)
        self.assertEqual(word_of(lambda: deed(*more)), word, more)
        self.assertEqual(contents(self.files), before)
        self.assertIsNone(self.files.cache.before)

    def shown(self, path, **more):
        return self.files.status(path, **more).shown()
