"""Check: whether a file system's parts agree."""

from hoststack.errors import CheckError
from hoststack.inode import FOLDER, FREE, UNKNOWN
from hoststack.layout import ROOT


class Report:
    """How many inodes of each class, how many used blocks, and how many names there are."""

    def __init__(self, sorts, blocks, names):
        self.sorts = dict(sorts)
        self.blocks = blocks
        self.names = names

    def shown(self):
        """Return (classes with their numbers in ascending order of words, used blocks, names)."""
        return (tuple([(word, self.sorts[word]) for word in sorted(self.sorts)]), self.blocks, self.names)


def stands_for_nothing(files, number):
    """Return True if there is no inode of a number for which a name may stand."""
    return not 0 < number < files.layout.inodes or files.blocks.inode(number).kind == FREE


def count_links(files):
    """Return a table of inode numbers to how many names stand for them; raise CheckError for a folder with two."""
    found = {ROOT: 1}
    level = [ROOT]
    while level != []:
        below = []
        for folder in level:
            below.extend(count_names(files, folder, found))
        level = below
    return found


def count_names(files, folder, found):
    """Count the names in a folder, and return the folders among what they stand for."""
    entries = files.entries(folder)
    folders = []
    for name in sorted(entries):
        number = entries[name]
        if stands_for_nothing(files, number):
            raise CheckError('a name stands for nothing')
        if files.blocks.inode(number).kind == FOLDER:
            if number in found:
                raise CheckError('a folder has two names')
            folders.append(number)
        found[number] = found.get(number, 0) + 1
    return folders


def is_too_large(files, inode):
    """Return True if an inode tells of a size that no file may have."""
    return inode.size > files.blocks.most_blocks() * files.layout.block_size


def check(files):
    """Return the report of a file system; raise CheckError if links, blocks or the bitmap do not agree."""
    inodes = [(number, files.blocks.inode(number)) for number in range(ROOT, files.layout.inodes)]
    there = [(number, inode) for number, inode in inodes if inode.kind != FREE]
    # Folders are read only once it is known that their blocks are there.
    used = used_blocks(files, there)
    links = count_links(files)
    sorts = {}
    for number, inode in there:
        check_inode(files, number, inode, links)
        word = inode.sort_word()
        sorts[word] = sorts.get(word, 0) + 1
    check_bitmap(files, used)
    # The root has no name in a folder.
    return Report(sorts, len(used), sum(links.values()) - 1)


def used_blocks(files, inodes):
    """Return a table of the blocks of inodes; raise CheckError for one that is used twice, or outside."""
    used = {}
    for number, inode in inodes:
        for block in files.blocks.blocks_of(inode):
            if block in used or not files.blocks.is_data(block):
                raise CheckError('a block is used twice, or outside')
            used[block] = True
    return used


def check_inode(files, number, inode, links):
    """Raise CheckError for an inode of an unknown class, a wrong size or wrong links, or one that is lost."""
    if inode.sort_word() == UNKNOWN:
        raise CheckError('an unknown class of file')
    if is_too_large(files, inode):
        raise CheckError('a file is too large')
    if inode.links != links.get(number, 0):
        raise CheckError('links do not agree')
    if number not in links and not files.in_use(number):
        raise CheckError('a file is lost')


def should_be_used(files, block, used):
    """Return True if the bitmap should tell that a block is used, where files use so many blocks."""
    return block < files.layout.data_start or block in used


def check_bitmap(files, used):
    """Raise CheckError if the bitmap does not tell which blocks are used."""
    for block in range(files.layout.total):
        if files.blocks.is_used(block) != should_be_used(files, block, used):
            raise CheckError('the bitmap does not agree')
