"""Repair: a damaged file system made whole: names that stand for nothing are dropped, lost files are found again."""

from hoststack.check import is_too_large, should_be_used, stands_for_nothing
from hoststack.errors import CheckError, FileError, JournalError
from hoststack.inode import DIRECT, FILE, FOLDER, FREE, LINK, MOST_MODE, UNKNOWN, fresh_inode
from hoststack.layout import ROOT, parts
from hoststack.letters import LETTERS
from hoststack.names import set_name

FOUND = '/found'
FOUND_WORD = 'lost'


class Repair:
    """A file system, what was done to it as (deed, number), and open files that stay without names."""

    def __init__(self, files):
        self.files = files
        self.told = []
        self.staying = {}

    def tell(self, deed, number):
        """Note a deed."""
        self.told.append((deed, number))

    def inode(self, number):
        """Return an inode."""
        return self.files.blocks.inode(number)

    def put_inode(self, number, inode):
        """Change an inode, and nothing else."""
        self.files.carry_out(lambda: self.files.blocks.put_inode(number, inode))

    def numbers_of(self, kinds):
        """Return the numbers of the inodes of some classes, in ascending order."""
        return [number for number in range(ROOT, self.files.layout.inodes) if self.inode(number).kind in kinds]

    def mend_inodes(self):
        """Free inodes of unknown classes, and empty files with wrong blocks; return a table of the blocks in use."""
        used = {}
        for number in range(ROOT, self.files.layout.inodes):
            inode = self.inode(number)
            if inode.sort_word() == UNKNOWN:
                self.put_inode(number, fresh_inode(FREE, 0, 0))
                self.tell('freed', number)
            elif inode.kind != FREE and not self.takes_blocks(inode, used):
                self.put_inode(number, inode.with_blocks((0,) * DIRECT, 0).with_size(0))
                self.tell('emptied', number)
        return used

    def takes_blocks(self, inode, used):
        """Note the blocks of a file as used; return False, and note none, if one is outside or another's."""
        numbers = {}
        if is_too_large(self.files, inode):
            return False
        for block in self.files.blocks.blocks_of(inode):
            if block in used or block in numbers or not self.files.blocks.is_data(block):
                return False
            numbers[block] = True
        used.update(numbers)
        return True

    def mend_bitmap(self, used):
        """Let the bitmap tell which blocks are used."""
        blocks = self.files.blocks
        for block in range(self.files.layout.total):
            wanted = should_be_used(self.files, block, used)
            if blocks.is_used(block) != wanted:
                self.mark(block, wanted)
                self.tell('marked', block)

    def mark(self, block, wanted):
        """Let the bitmap tell that a block is used, or that it is not."""
        self.files.carry_out(lambda: self.files.blocks.mark([block], wanted))

    def make_root(self):
        """Make an empty root if it is no folder."""
        if self.inode(ROOT).kind != FOLDER:
            if self.inode(ROOT).kind != FREE:
                self.files.free(ROOT)
            self.put_inode(ROOT, fresh_inode(FOLDER, MOST_MODE, 0).with_links(1))
            self.tell('made', ROOT)

    def clear_folders(self):
        """Clear the folders that cannot be read."""
        for number in self.numbers_of((FOLDER,)):
            try:
                self.files.entries(number)
            except (CheckError, FileError):
                self.files.empty(number)
                self.files.cut(number, 0)
                self.tell('cleared', number)

    def drop_names(self):
        """Drop names that stand for nothing, or for a folder that has a name.

        The names on the ways down from the root go first, then those on the ways down from lost folders. Of folders
        that stand within each other in a ring, the one of the least number loses its name.
        """
        seen = {}
        self.walk_down(ROOT, seen)
        left = [number for number in self.numbers_of((FOLDER,)) if number not in seen]
        while left != []:
            around = self.folders_around(left)
            heads = [number for number in left if number not in around]
            if heads == []:
                heads.append(ring_member(left[0], around))
            for head in heads:
                self.walk_down(head, seen)
            left = [number for number in left if number not in seen]

    def folders_around(self, numbers):
        """Return a table of those folders that stand within others of them to the first one around them."""
        found = {}
        for folder in numbers:
            entries = self.files.entries(folder)
            for name in sorted(entries):
                if entries[name] in numbers and entries[name] not in found:
                    found[entries[name]] = folder
        return found

    def walk_down(self, head, seen):
        """Note a folder and all folders below it as seen, and drop the names there that must not stand."""
        seen[head] = True
        level = [head]
        while level != []:
            below = []
            for folder in level:
                below.extend(self.walk_through(folder, seen))
            level = below

    def walk_through(self, folder, seen):
        """Drop the names of a folder that must not stand; return the folders for which the others stand."""
        entries = self.files.entries(folder)
        kept = {}
        folders = []
        for name in sorted(entries):
            number = entries[name]
            if stands_for_nothing(self.files, number) or number in seen:
                self.tell('dropped', folder)
            else:
                kept[name] = number
                if self.inode(number).kind == FOLDER:
                    seen[number] = True
                    folders.append(number)
        if len(kept) < len(entries):
            self.files.carry_out(lambda: self.files.put_entries(folder, kept))
        return folders

    def count_links(self):
        """Return a table of inode numbers to how many names stand for them in all folders."""
        found = {ROOT: 1}
        for folder in self.numbers_of((FOLDER,)):
            entries = self.files.entries(folder)
            for name in sorted(entries):
                found[entries[name]] = found.get(entries[name], 0) + 1
        return found

    def lost_numbers(self):
        """Return the numbers of the inodes without names, but for open files that lost their last one."""
        links = self.count_links()
        nameless = [number for number in self.numbers_of((FILE, FOLDER, LINK)) if number not in links]
        return [number for number in nameless if number not in self.staying]

    def find_lost(self):
        """Put what has no name into /found, or free it."""
        for number in self.numbers_of((FILE, LINK)):
            if self.files.in_use(number) and self.inode(number).links == 0:
                self.staying[number] = True
        lost = self.lost_numbers()
        # What stood in a folder that is freed has no name then.
        while lost != []:
            for number in lost:
                self.rescue(number)
            lost = self.lost_numbers()

    def rescue(self, number):
        """Put an inode without names into /found; free it if it is empty or there is no room, unless it is open."""
        inode = self.inode(number)
        is_empty = inode.size == 0
        if not is_empty and self.put_into_found(number):
            self.tell('found', number)
        elif self.files.in_use(number) and (is_empty or inode.kind != FOLDER):
            self.staying[number] = True
        else:
            self.files.free(number)
            self.tell('freed', number)

    def put_into_found(self, number):
        """Give an inode a name in /found; return False if there is no room for it."""
        name = FOUND_WORD + str(number)
        try:
            folder = self.found_folder()
            if name in self.files.entries(folder):
                return False
            self.files.carry_out(lambda: set_name(self.files, folder, name, number))
        except (FileError, JournalError):
            return False
        return True

    def found_folder(self):
        """Return the number of the folder /found, which is made if it is missing."""
        try:
            return self.files.resolve(FOUND)
        except FileError:
            return self.files.make_folder(FOUND)

    def mend_links(self):
        """Let each inode tell how many names stand for it."""
        links = self.count_links()
        for number in self.numbers_of((FILE, FOLDER, LINK)):
            inode = self.inode(number)
            if inode.links != links.get(number, 0):
                self.put_inode(number, inode.with_links(links.get(number, 0)))
                self.tell('counted', number)

    def clean_texts(self):
        """Put line ends in the places of what is no character in files and in symbolic links."""
        for number in self.numbers_of((FILE, LINK)):
            inode = self.inode(number)
            size = self.files.layout.block_size
            places = self.files.blocks.places(inode)[:parts(inode.size, size)]
            cleaned = [self.clean_block(block, inode.size - place * size) for place, block in enumerate(places)]
            if True in cleaned:
                self.tell('cleaned', number)

    def clean_block(self, block, many):
        """Put line ends in the places of what is no character in so many bytes of a block; return True if some were."""
        if block == 0:
            return False
        data = self.files.cache.read_block(block)
        wrong = [place for place, byte in enumerate(data[:many]) if byte >= len(LETTERS)]
        if wrong == []:
            return False
        row = list(data)
        for place in wrong:
            row[place] = 0
        self.files.carry_out(lambda: self.files.blocks.change_block(block, tuple(row)))
        return True


def ring_member(number, around):
    """Return the least of the folders in the ring in which the ways up from a folder end."""
    way = []
    while number not in way:
        way.append(number)
        number = around[number]
    return min(way[way.index(number):])


def repair(files):
    """Make a file system whole, and return ((deed, number), ..) in order: of a block for "marked", else of an inode."""
    mending = Repair(files)
    used = mending.mend_inodes()
    mending.mend_bitmap(used)
    mending.make_root()
    mending.clear_folders()
    mending.drop_names()
    mending.find_lost()
    mending.mend_links()
    mending.clean_texts()
    return tuple(mending.told)
