"""Files: a tree of folders, files and symbolic links on a device; operations are whole or not at all."""

from hoststack.blocks import Blocks
from hoststack.cache import Cache
from hoststack.errors import DeviceError, FileError, HostError
from hoststack.folder import check_name, folder_bytes, folder_from, split_path
from hoststack.inode import FILE, FILE_MODE, FOLDER, FOLDER_MODE, LINK, MOST_MODE
from hoststack.inode import fresh_inode, inode_bytes, may
from hoststack.journal import Journal
from hoststack.layout import INODE_SIZE, JOURNAL_BLOCKS, ROOT, Layout, layout_from
from hoststack.letters import numbers_of, text_of

MOST_AT_ONCE = 200
MOST_FOLDER_BLOCKS = 8
MOST_FOLDERS = 30
MOST_FOLLOWED = 8
MOST_NAMES = 65535
# Beside what the bitmap tells of a file's blocks, freeing them changes the inode, the indirect block and its bit.
BLOCKS_BESIDE = 3


class Files:
    """A mounted file system: its cache, layout and blocks, and how many open files each inode has."""

    def __init__(self, cache, layout):
        self.cache = cache
        self.layout = layout
        self.blocks = Blocks(cache, layout)
        self.holding = {}

    def carry_out(self, deed):
        """Return what a deed returns that is one operation, which is undone if it fails."""
        self.cache.begin()
        try:
            found = deed()
        except HostError:
            self.cache.undo()
            raise
        try:
            self.cache.end()
        except DeviceError:
            self.cache.undo()
            raise
        return found

    def entries(self, number):
        """Return the table of a folder's names to inode numbers; raise FileError "not a folder" for another inode."""
        inode = self.blocks.inode(number)
        if inode.kind != FOLDER:
            raise FileError('not a folder')
        return folder_from(self.blocks.read_data(inode, 0, inode.size))

    def put_entries(self, number, entries):
        """Change a folder's names."""
        data = folder_bytes(entries)
        if len(data) > MOST_FOLDER_BLOCKS * self.layout.block_size:
            raise FileError('no space')
        inode = self.blocks.inode(number)
        if len(data) < inode.size:
            inode = self.blocks.cut_data(inode, len(data))
        self.blocks.put_inode(number, self.blocks.write_data(inode, 0, data))

    def need(self, number, user, wanted):
        """Raise FileError "denied" if a user may not read, write or execute an inode."""
        if not may(self.blocks.inode(number), user, wanted):
            raise FileError('denied')

    def in_use(self, number):
        """Return True if somebody has opened an inode."""
        return self.holding.get(number, 0) > 0

    def folders_in(self, number):
        """Return the numbers of the folders that stand in a folder, in ascending order of names."""
        entries = self.entries(number)
        numbers = [entries[name] for name in sorted(entries)]
        return [child for child in numbers if self.blocks.inode(child).kind == FOLDER]

    def chain_of(self, number):
        """Return the numbers of the folders from the root down to a folder."""
        around = {ROOT: None}
        level = [ROOT]
        # Folders do not tell what is around them, so they are looked for from the root down.
        while number not in around and level != []:
            below = []
            for folder in level:
                for child in self.folders_in(folder):
                    if child not in around:
                        around[child] = folder
                        below.append(child)
            level = below
        chain = [number]
        while around.get(chain[0], None) is not None:
            chain.insert(0, around[chain[0]])
        return chain

    def folder_around(self, number):
        """Return the number of the folder around a folder; the root's is itself."""
        chain = self.chain_of(number)
        return chain[-2] if len(chain) > 1 else number

    def look_up(self, folder, name, user):
        """Return the inode number of a name in a folder that a user goes through, None if it is not there."""
        entries = self.entries(folder)
        self.need(folder, user, 'x')
        if name == '..':
            return self.folder_around(folder)
        return entries.get(name, None)

    def link_text(self, inode):
        """Return the path that a symbolic link tells."""
        return text_of(self.blocks.read_data(inode, 0, inode.size))

    def follow(self, number, folder, user, depth):
        """Return an inode number, or to what it leads from its folder on if it is a symbolic link."""
        inode = self.blocks.inode(number)
        if inode.kind != LINK:
            return number
        return self.resolve(self.link_text(inode), folder, user, True, depth + 1)

    def place_of(self, path, start, user, depth=0):
        """Return (folder, name, inode number) of a path; a symbolic link at its end is followed if "/" stands behind.

        The name is None for the root, "." and "..", and the inode number for a name that is not there.
        """
        if depth > MOST_FOLLOWED:
            raise FileError('too many links')
        from_root, names = split_path(path)
        folder = ROOT if from_root else start
        if names == ():
            return (folder, None, folder)
        for name in names[:-1]:
            number = self.look_up(folder, name, user)
            if number is None:
                raise FileError('missing')
            folder = self.follow(number, folder, user, depth)
        number = self.look_up(folder, names[-1], user)
        if number is not None and ends_as_folder(path):
            inode = self.blocks.inode(number)
            if inode.kind == LINK:
                return self.place_behind(inode, folder, user, depth)
            if inode.kind != FOLDER:
                raise FileError('not a folder')
        return (folder, None if names[-1] == '..' else names[-1], number)

    def place_behind(self, inode, folder, user, depth):
        """Return the place of the folder to which a symbolic link leads; raise FileError if it leads to none."""
        found = self.place_of(self.link_text(inode) + '/', folder, user, depth + 1)
        if found[2] is None:
            raise FileError('missing')
        return found

    def resolve(self, path, start=ROOT, user=0, follow=True, depth=0):
        """Return the inode number of a path from a folder on; the last symbolic link is followed if asked.

        Raise FileError "missing", "not a folder", "denied" or "too many links".
        """
        folder, name, number = self.place_of(path, start, user, depth)
        if number is None:
            raise FileError('missing')
        return self.follow(number, folder, user, depth) if follow else number

    def add(self, path, start, user, sort, mode, text=''):
        """Add an inode under a path and return its number; raise FileError, for instance "exists"."""
        folder, name, number = self.place_of(path, start, user)
        if number is not None:
            raise FileError('exists')
        check_name(name)
        self.need(folder, user, 'w')
        if sort != FOLDER and ends_as_folder(path):
            raise FileError('not a folder')
        if sort == FOLDER and len(self.chain_of(folder)) >= MOST_FOLDERS:
            raise FileError('too deep')
        check_mode(mode)
        return self.carry_out(lambda: self.add_inode(folder, name, fresh_inode(sort, mode, user), text))

    def add_inode(self, folder, name, inode, text):
        """Add an inode with a text under a new name of a folder, within the open operation; return its number."""
        data = numbers_of(text)
        number = self.blocks.first_free_inode()
        self.blocks.put_inode(number, self.blocks.write_data(inode.with_links(1), 0, data))
        entries = self.entries(folder)
        entries[name] = number
        self.put_entries(folder, entries)
        return number

    def create(self, path, start=ROOT, user=0, mode=FILE_MODE):
        """Make an empty file and return its inode number."""
        return self.add(path, start, user, FILE, mode)

    def make_folder(self, path, start=ROOT, user=0, mode=FOLDER_MODE):
        """Make an empty folder and return its inode number."""
        return self.add(path, start, user, FOLDER, mode)

    def make_link(self, path, text, start=ROOT, user=0):
        """Make a symbolic link to a path and return its number; FileError "bad name" for no path, or line ends."""
        if text == '' or '\n' in text:
            raise FileError('bad name')
        return self.add(path, start, user, LINK, FOLDER_MODE, text)

    def list_folder(self, path, start=ROOT, user=0):
        """Return the names in a folder, in ascending order."""
        number = self.resolve(path, start, user)
        entries = self.entries(number)
        self.need(number, user, 'r')
        return tuple(sorted(entries))

    def status(self, path, start=ROOT, user=0, follow=True):
        """Return the inode of a path."""
        return self.blocks.inode(self.resolve(path, start, user, follow))

    def file_inode(self, number):
        """Return the inode of a file; raise FileError "not a file" for another inode."""
        inode = self.blocks.inode(number)
        if inode.kind != FILE:
            raise FileError('not a file')
        return inode

    def read(self, number, offset, many):
        """Return the text of a file from an offset on, at most so many characters; holes are line ends."""
        if offset < 0 or many < 0:
            raise FileError('bad size')
        return text_of(self.blocks.read_data(self.file_inode(number), offset, many))

    def write(self, number, offset, text):
        """Write a text of at most 200 characters into a file from an offset on, and return how many were written."""
        if len(text) > MOST_AT_ONCE:
            raise FileError('too large')
        if offset < 0:
            raise FileError('bad size')
        inode = self.file_inode(number)
        data = numbers_of(text)
        if text != '':
            self.carry_out(lambda: self.blocks.put_inode(number, self.blocks.write_data(inode, offset, data)))
        return len(text)

    def cut(self, number, size):
        """Change the size of a file or a folder."""
        inode = self.blocks.inode(number)
        self.carry_out(lambda: self.blocks.put_inode(number, self.blocks.cut_data(inode, size)))

    def change_names(self, number, many):
        """Count so many more names of an inode, within the open operation; without names and use it is freed."""
        inode = self.blocks.inode(number)
        if inode.links + many > MOST_NAMES:
            raise FileError('too large')
        if inode.links + many == 0 and not self.in_use(number):
            self.blocks.free_inode(number)
        else:
            self.blocks.put_inode(number, inode.with_links(inode.links + many))

    def empty(self, number):
        """Free the blocks of a file that nobody can see, the last ones first.

        Each block may stand elsewhere in the bitmap, so that a whole file is no operation for a small journal.
        """
        places = self.blocks.places(self.blocks.inode(number))
        many = max(1, self.cache.journal.room() - BLOCKS_BESIDE)
        for first in reversed(range(0, len(places), many)):
            if any(places[first:first + many]):
                self.cut_places(number, first)

    def cut_places(self, number, first):
        """Free the blocks of a file from a place on."""
        inode = self.blocks.inode(number)
        self.carry_out(lambda: self.blocks.put_inode(number, self.blocks.without_blocks(inode, first)))

    def free(self, number):
        """Free an inode and its blocks."""
        self.empty(number)
        self.carry_out(lambda: self.blocks.free_inode(number))

    def hold(self, number):
        """Note that an inode is open once more."""
        self.holding[number] = self.holding.get(number, 0) + 1

    def let_go(self, number):
        """Note that an inode is open once less; a file without names is freed when nobody has opened it any more."""
        if self.holding[number] == 1 and self.blocks.inode(number).links == 0:
            self.free(number)
        self.holding[number] = self.holding[number] - 1
        if self.holding[number] == 0:
            del self.holding[number]

    def sync(self):
        """Let all operations so far survive a crash."""
        self.cache.sync()

    def named_numbers(self):
        """Return a table of the inode numbers for which names stand in the folders that can be read."""
        found = {}
        for number in range(ROOT, self.layout.inodes):
            if self.blocks.inode(number).kind == FOLDER:
                for child in self.readable_numbers(number):
                    found[child] = True
        return found

    def readable_numbers(self, number):
        """Return the inode numbers for which a folder's names stand, none if it cannot be read."""
        try:
            entries = self.entries(number)
        except HostError:
            # A damaged folder tells of nothing, but a crashed device is not read.
            self.cache.journal.device.check_alive()
            return []
        return [entries[name] for name in sorted(entries)]

    def free_nameless(self):
        """Free the files that lost their last name while they were open, each in an operation of its own."""
        inodes = [(number, self.blocks.inode(number)) for number in range(ROOT, self.layout.inodes)]
        lost = [number for number, inode in inodes if inode.kind == FILE and inode.links == 0]
        named = self.named_numbers() if lost != [] else {}
        for number in lost:
            if number not in named:
                self.free(number)


def ends_as_folder(path):
    """Return True if a path must name a folder."""
    return path.endswith('/') or path.endswith('/.')


def check_mode(mode):
    """Raise FileError "bad mode" for a mode that is not six bits."""
    if not 0 <= mode <= MOST_MODE:
        raise FileError('bad mode')


def table_row(layout, block):
    """Return the bytes of a block of a new inode table, in which the root alone is not free."""
    root_block, offset = layout.inode_place(ROOT)
    row = [0] * layout.block_size
    if block == root_block:
        root = fresh_inode(FOLDER, MOST_MODE, 0).with_links(1)
        row[offset:offset + INODE_SIZE] = inode_bytes(root)
    return tuple(row)


def bitmap_row(layout, block):
    """Return the bytes of a block of a new bitmap, in which all data is unused."""
    first = (block - layout.bitmap_start) * 8 * layout.block_size
    used = [min(max(layout.data_start - first - 8 * place, 0), 8) for place in range(layout.block_size)]
    return tuple([(1 << bits) - 1 for bits in used])


def keep_rows(device, rows):
    """Write blocks that have other bytes, and let a device keep them."""
    for number, data in rows:
        if device.read(number) != data:
            device.write_block(number, data)
    if device.waiting != []:
        device.flush()


def files_on(device, layout, capacity):
    """Return the file system of a layout on a device."""
    return Files(Cache(Journal(device, layout.journal_start, JOURNAL_BLOCKS), capacity), layout)


def make_files(device, inodes=64, capacity=16):
    """Return a new file system on a device: an empty root folder that everybody may use."""
    layout = Layout(device.block_size, device.total, inodes)
    zeros = (0,) * device.block_size
    rows = [(layout.journal_start, zeros)]
    for block in range(layout.table_start, layout.bitmap_start):
        rows.append((block, table_row(layout, block)))
    for block in range(layout.bitmap_start, layout.data_start):
        rows.append((block, bitmap_row(layout, block)))
    # A superblock counts for all that it tells of, so the old one is dropped first and the new one written last.
    keep_rows(device, [(0, zeros)])
    keep_rows(device, rows)
    keep_rows(device, [(0, layout.superblock())])
    return files_on(device, layout, capacity)


def mount(device, capacity=16):
    """Return the file system of a device, also after a crash; files that no folder names are freed."""
    files = files_on(device, layout_from(device.read(0)), capacity)
    files.cache.journal.recover()
    files.free_nameless()
    return files
