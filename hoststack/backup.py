"""Backups: the changes between two trees, as tree_of tells them, and trees to which they are made."""

from hoststack.errors import FileError, HostError
from hoststack.files import MOST_AT_ONCE, check_mode
from hoststack.folder import joined_path
from hoststack.inode import DIRECT, FILE, FOLDER, LINK, fresh_inode
from hoststack.layout import ROOT, parts
from hoststack.letters import check_text, numbers_of
from hoststack.names import drop_folder, set_name, sort_in_tree, unlink

FOLDER_CONTENT = 'folder'
LINK_WORD = 'link'
FILE_WORD = 'file'
ROW_SIZES = {'drop': 3, 'make': 5, 'write': 3, 'set': 4}


def sort_of(content):
    """Return "file", "link" or "folder" for a content."""
    if isinstance(content, tuple):
        return content[0]
    return FOLDER_CONTENT if content == FOLDER_CONTENT else FILE_WORD


def listed(rows, names):
    """Return (path, (mode, owner, class, content)) of rows and of all below them."""
    found = []
    for name, mode, owner, content in rows:
        here = names + (name,)
        sort = sort_in_tree(content)
        told = FOLDER_CONTENT if sort == FOLDER_CONTENT else content
        found.append((joined_path(here), (mode, owner, sort, told)))
        if sort == FOLDER_CONTENT:
            found.extend(listed(content[1], here))
    return found


def flat(rows, names=()):
    """Return a table of paths to (mode, owner, content) of rows, a folder's content being "folder"."""
    return {path: (mode, owner, content) for path, (mode, owner, sort, content) in listed(rows, tuple(names))}


def is_other_sort(one, other):
    """Return True if two contents are of other classes, or links to other paths."""
    return is_other((sort_of(one), one), (sort_of(other), other))


def is_other(one, other):
    """Return True if of two (class, content) one cannot be written over the other."""
    return one[0] != other[0] or one[0] == LINK_WORD and one[1] != other[1]


def changes(old, new):
    """Return the changes that make new rows of old ones, in an order in which they can be made.

    They are ("drop", path, class), in falling order of paths, ("make", path, mode, owner, content), parents first, and
    ("write", path, content) and ("set", path, mode, owner).
    """
    before = dict(listed(old, ()))
    after = dict(listed(new, ()))
    stays = {path: not is_other(before[path][2:], after[path][2:]) for path in before if path in after}
    found = [('drop', path, before[path][2]) for path in sorted(before, reverse=True) if not stays.get(path, False)]
    for path in sorted(after):
        if stays.get(path, False):
            found.extend(changes_of(path, before[path], after[path]))
        else:
            found.extend(changes_to(path, after[path]))
    return tuple(found)


def changes_to(path, row):
    """Return the changes that make what was not there."""
    mode, owner, sort, content = row
    if sort == FILE_WORD and content == FOLDER_CONTENT:
        # A content "folder" makes a folder.
        return [('make', path, mode, owner, ''), ('write', path, content)]
    return [('make', path, mode, owner, content)]


def changes_of(path, old, new):
    """Return the changes of what stays what it is."""
    found = []
    if old[3] != new[3]:
        found.append(('write', path, new[3]))
    if old[:2] != new[:2]:
        found.append(('set', path, new[0], new[1]))
    return found


def apply_changes(files, rows):
    """Make changes in a file system as user 0; raise FileError if they do not fit."""
    for row in rows:
        if len(row) == 0 or ROW_SIZES.get(row[0], 0) != len(row):
            raise FileError('bad change')
        apply_change(files, row)


def apply_change(files, row):
    """Make a change."""
    if row[0] == 'drop':
        drop(files, row[1], row[2])
    elif row[0] == 'make':
        make(files, row[1], (row[2], row[3]), row[4])
    elif row[0] == 'write':
        write_file(files, row[1], row[2])
    else:
        set_rights(files, row[1], row[2], row[3])


def drop(files, path, sort):
    """Drop the name of something of a class."""
    kind = files.status(path, follow=False).kind
    if sort not in (FILE_WORD, LINK_WORD, FOLDER_CONTENT) or (sort, kind) in ((FILE_WORD, LINK), (LINK_WORD, FILE)):
        raise FileError('bad change')
    if sort == FOLDER_CONTENT:
        drop_folder(files, path)
    else:
        unlink(files, path)


def make(files, path, rights, content):
    """Make something with a mode and an owner where nothing is."""
    mode, owner = rights
    check_mode(mode)
    sort = sort_of(content)
    if sort == FOLDER_CONTENT:
        number = files.make_folder(path, mode=mode)
    elif sort == LINK_WORD:
        number = files.make_link(path, content[1])
    else:
        number = files.create(path, mode=mode)
        write_new(files, path, number, content)
    put_rights(files, number, mode, owner)


def write_new(files, path, number, text):
    """Write a text into a new file, which is dropped again if it cannot hold it."""
    try:
        write_over(files, number, text)
    except FileError:
        unlink(files, path)
        raise


def write_over(files, number, text):
    """Let a file hold a text; raise FileError "too large" or "no space" before anything is changed."""
    inode = files.file_inode(number)
    check_room(files, text, len(files.blocks.blocks_of(inode)))
    if inode.size > len(text):
        files.cut(number, len(text))
    write_text(files, number, text)


def check_room(files, text, many):
    """Raise FileError unless a text has room in so many blocks and the unused ones."""
    wanted = parts(len(check_text(text)), files.layout.block_size)
    if wanted > files.blocks.most_blocks():
        raise FileError('too large')
    if wanted > DIRECT:
        wanted = wanted + 1
    if wanted > many + files.blocks.free_count():
        raise FileError('no space')


def write_text(files, number, text):
    """Write a text into a file from its beginning on, as much at once as it takes."""
    for place in range(0, len(text), MOST_AT_ONCE):
        files.write(number, place, text[place:place + MOST_AT_ONCE])


def write_file(files, path, text):
    """Write a text over that of a file; one with several names is parted."""
    number = files.resolve(path, follow=False)
    inode = files.file_inode(number)
    if inode.links > 1:
        part(files, path, inode, text)
    else:
        write_over(files, number, text)


def set_rights(files, path, mode, owner):
    """Give something another mode and owner; a file with several names is parted."""
    number = files.resolve(path, follow=False)
    inode = files.blocks.inode(number)
    check_mode(mode)
    if inode.links > 1 and inode.kind != FOLDER:
        text = files.read(number, 0, inode.size) if inode.kind == FILE else files.link_text(inode)
        part(files, path, inode.with_rights(mode, owner), text)
    else:
        put_rights(files, number, mode, owner)


def put_rights(files, number, mode, owner):
    """Change the mode and the owner of an inode."""
    inode = files.blocks.inode(number)
    files.carry_out(lambda: files.blocks.put_inode(number, inode.with_rights(mode, owner)))


def part(files, path, inode, text):
    """Let a path stand for a file of its own, like an inode but for its text, in the place of one of several names."""
    place = files.place_of(path, ROOT, 0)
    check_room(files, text, 0)
    if inode.kind == FILE:
        part_file(files, place, inode, text)
    else:
        files.carry_out(lambda: change_name(files, place, add_nameless(files, inode, text)))


def part_file(files, place, inode, text):
    """Let a name stand for a new file with a text, which has no name until it is whole."""
    number = files.carry_out(lambda: add_nameless(files, inode, ''))
    files.hold(number)
    try:
        write_text(files, number, text)
        files.carry_out(lambda: change_name(files, place, number))
    except HostError:
        files.let_go(number)
        raise
    files.let_go(number)


def add_nameless(files, inode, text):
    """Add an inode without names that is like another one, within the open operation; return its number."""
    number = files.blocks.first_free_inode()
    fresh = fresh_inode(inode.kind, inode.mode, inode.owner)
    files.blocks.put_inode(number, files.blocks.write_data(fresh, 0, numbers_of(text)))
    return number


def change_name(files, place, number):
    """Let a name stand for another inode than before, within the open operation."""
    folder, name, old = place
    files.change_names(number, 1)
    set_name(files, folder, name, number)
    files.change_names(old, -1)


def changes_text(rows):
    """Return a line for each change: its word and path."""
    return ''.join([row[0] + ' ' + row[1] + '\n' for row in rows])
