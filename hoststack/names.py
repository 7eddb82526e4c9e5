"""Names: operations that change which names stand for which files."""

from hoststack.errors import FileError
from hoststack.files import MOST_FOLDERS, check_mode
from hoststack.folder import check_name
from hoststack.inode import FOLDER, LINK
from hoststack.layout import ROOT


def check_idle(files, name, number):
    """Raise FileError "busy" for the root, "." and "..", which have no name, and for a folder in use."""
    if name is None:
        raise FileError('busy')
    if number is not None and files.in_use(number) and files.blocks.inode(number).kind == FOLDER:
        raise FileError('busy')


def named(files, path, start, user):
    """Return (folder, name, inode number) of a path that is there and may be dropped or moved."""
    folder, name, number = files.place_of(path, start, user)
    check_idle(files, name, number)
    if number is None:
        raise FileError('missing')
    return (folder, name, number)


def drop_name(files, folder, name, number):
    """Drop a name of a folder, and the inode with its last name, within the open operation."""
    entries = files.entries(folder)
    del entries[name]
    files.put_entries(folder, entries)
    files.change_names(number, -1)


def unlink(files, path, start=ROOT, user=0):
    """Drop the name of a file or symbolic link."""
    folder, name, number = named(files, path, start, user)
    files.need(folder, user, 'w')
    if files.blocks.inode(number).kind == FOLDER:
        raise FileError('is a folder')
    files.carry_out(lambda: drop_name(files, folder, name, number))


def drop_folder(files, path, start=ROOT, user=0):
    """Drop an empty folder."""
    folder, name, number = named(files, path, start, user)
    files.need(folder, user, 'w')
    check_empty(files, number)
    files.carry_out(lambda: drop_name(files, folder, name, number))


def check_empty(files, number):
    """Raise FileError "not a folder" or "not empty" for another inode than an empty folder."""
    if files.entries(number) != {}:
        raise FileError('not empty')


def link(files, old, new, start=ROOT, user=0):
    """Give a file or symbolic link another name; raise FileError "is a folder" for a folder."""
    number = files.resolve(old, start, user, False)
    if files.blocks.inode(number).kind == FOLDER:
        raise FileError('is a folder')
    folder, name, there = files.place_of(new, start, user)
    if there is not None:
        raise FileError('exists')
    check_name(name)
    files.need(folder, user, 'w')
    files.carry_out(lambda: add_name(files, folder, name, number))


def add_name(files, folder, name, number):
    """Add a name to a folder, within the open operation."""
    files.change_names(number, 1)
    set_name(files, folder, name, number)


def set_name(files, folder, name, number):
    """Let a name of a folder stand for an inode, within the open operation."""
    entries = files.entries(folder)
    entries[name] = number
    files.put_entries(folder, entries)


def rename(files, old, new, start=ROOT, user=0):
    """Move a name; a file there is replaced by a file or link, an empty folder by a folder."""
    folder, name, number = named(files, old, start, user)
    target, word, there = files.place_of(new, start, user)
    check_idle(files, word, there)
    if there is None:
        check_name(word)
    files.need(folder, user, 'w')
    files.need(target, user, 'w')
    if there == number:
        return
    check_move(files, number, target, there)
    files.carry_out(lambda: move_name(files, (folder, name, number), (target, word, there)))


def check_move(files, number, target, there):
    """Raise FileError if an inode cannot be moved into a folder, where another one is there or None."""
    is_folder = files.blocks.inode(number).kind == FOLDER
    if is_folder:
        chain = files.chain_of(target)
        if number in chain:
            raise FileError('busy')
        if len(chain) + depth_of(files, number) > MOST_FOLDERS:
            raise FileError('too deep')
    if there is None:
        return
    if is_folder:
        check_empty(files, there)
    elif files.blocks.inode(there).kind == FOLDER:
        raise FileError('is a folder')


def move_name(files, old, new):
    """Move a name from an old place to a new one, within the open operation."""
    folder, name, number = old
    target, word, there = new
    entries = files.entries(folder)
    del entries[name]
    if folder == target:
        entries[word] = number
    files.put_entries(folder, entries)
    if folder != target:
        set_name(files, target, word, number)
    if there is not None:
        files.change_names(there, -1)


def depth_of(files, number=ROOT):
    """Return the number of folders on the longest way down from a folder, itself counted."""
    seen = {number: True}
    level = [number]
    depth = 0
    while level != []:
        depth = depth + 1
        below = []
        for folder in level:
            below.extend([child for child in files.folders_in(folder) if child not in seen])
        for child in below:
            seen[child] = True
        level = below
    return depth


def change_mode(files, path, mode, start=ROOT, user=0):
    """Change what the owner and others may do; raise FileError "denied" for other users than the owner and user 0."""
    number = files.resolve(path, start, user)
    inode = files.blocks.inode(number)
    if user not in (0, inode.owner):
        raise FileError('denied')
    check_mode(mode)
    files.carry_out(lambda: files.blocks.put_inode(number, inode.with_rights(mode, inode.owner)))


def change_owner(files, path, owner, start=ROOT, user=0):
    """Change an owner; raise FileError "denied" for other users than user 0."""
    number = files.resolve(path, start, user)
    inode = files.blocks.inode(number)
    if user != 0:
        raise FileError('denied')
    files.carry_out(lambda: files.blocks.put_inode(number, inode.with_rights(inode.mode, owner)))


def content_of(files, number):
    """Return the text of a file, ("link", path) of a symbolic link, and ("folder", rows) of a folder."""
    inode = files.blocks.inode(number)
    if inode.kind == FOLDER:
        return ('folder', tree_of(files, number))
    if inode.kind == LINK:
        return ('link', files.link_text(inode))
    return files.read(number, 0, inode.size)


def sort_in_tree(content):
    """Return the class of a content in a tree as a word: there a text is a file's, also the text "folder"."""
    return content[0] if isinstance(content, tuple) else 'file'


def tree_of(files, number=ROOT):
    """Return what stands below a folder: ((name, mode, owner, content), ..) in ascending order of names.

    The content is the text of a file, ("link", path) of a symbolic link, and ("folder", rows) of a folder.
    """
    entries = files.entries(number)
    rows = []
    for name in sorted(entries):
        inode = files.blocks.inode(entries[name])
        rows.append((name, inode.mode, inode.owner, content_of(files, entries[name])))
    return tuple(rows)
