"""Inodes: what a file is, whose, how large, and where its blocks stand."""

from hoststack.letters import number_of_pair, pair

FREE = 0
FILE = 1
FOLDER = 2
LINK = 3
SORTS = ('free', 'file', 'folder', 'link')
UNKNOWN = 'unknown'
SIGNS = ('-', '-', 'd', 'l')
DIRECT = 6
FILE_MODE = 52
FOLDER_MODE = 61
MOST_MODE = 63
OTHERS_RIGHTS = {'r': 4, 'w': 2, 'x': 1}
OWNER_FACTOR = 8


class Inode:
    """An inode: its class, mode, owner, number of links, size, direct blocks and indirect block (0 for none)."""

    def __init__(self, kind, mode, owner, links, size, direct, indirect):
        self.kind = kind
        self.mode = mode
        self.owner = owner
        self.links = links
        self.size = size
        self.direct = tuple(direct)
        self.indirect = indirect

    def sort_word(self):
        """Return the class as a word, also for a number that stands for none."""
        return SORTS[self.kind] if 0 <= self.kind < len(SORTS) else UNKNOWN

    def shown(self):
        """Return (class as a word, mode, owner, links, size, direct blocks, indirect block)."""
        return (self.sort_word(), self.mode, self.owner, self.links, self.size, self.direct, self.indirect)

    def with_links(self, links):
        """Return an inode like this one with another number of links."""
        return Inode(self.kind, self.mode, self.owner, links, self.size, self.direct, self.indirect)

    def with_rights(self, mode, owner):
        """Return an inode like this one with another mode and owner."""
        return Inode(self.kind, mode, owner, self.links, self.size, self.direct, self.indirect)

    def with_size(self, size):
        """Return an inode like this one with another size."""
        return Inode(self.kind, self.mode, self.owner, self.links, size, self.direct, self.indirect)

    def with_blocks(self, direct, indirect):
        """Return an inode like this one with other blocks."""
        return Inode(self.kind, self.mode, self.owner, self.links, self.size, direct, indirect)


def fresh_inode(kind, mode, owner):
    """Return an inode without links and blocks."""
    return Inode(kind, mode, owner, 0, 0, (0,) * DIRECT, 0)


def inode_bytes(inode):
    """Return the bytes of an inode."""
    data = [inode.kind, inode.mode, inode.owner]
    for number in (inode.links, inode.size // 65536, inode.size, *inode.direct, inode.indirect):
        data.extend(pair(number))
    # The last of the 24 bytes tells nothing.
    return (*data, 0)


def inode_from(data):
    """Return the inode of bytes."""
    links, high, low, *direct, indirect = [number_of_pair(data, place) for place in range(3, 23, 2)]
    return Inode(data[0], data[1], data[2], links, high * 65536 + low, direct, indirect)


def may(inode, user, wanted):
    """Return True if a user may read, write or execute: "r", "w" or "x"; user 0 may do everything."""
    if user == 0:
        return True
    right = OTHERS_RIGHTS[wanted]
    if user == inode.owner:
        right = right * OWNER_FACTOR
    return (inode.mode & right) != 0


def mode_text(inode):
    """Return nine or fewer signs that tell an inode's class and modes: d, l or -, then rwx twice."""
    sign = SIGNS[inode.kind] if 0 <= inode.kind < len(SIGNS) else '-'
    rights = 'rwxrwx'
    told = [rights[place] if (inode.mode >> (5 - place)) & 1 == 1 else '-' for place in range(len(rights))]
    return sign + ''.join(told)
