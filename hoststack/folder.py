"""Folders: names and the inodes that they stand for, as the bytes of a file."""

from hoststack.errors import CheckError, FileError
from hoststack.letters import check_text, number_of_pair, numbers_of, pair, text_of

LONGEST = 30
ROW_HEAD = 3


def check_name(name):
    """Return a name; raise FileError "bad name" for "", ".", "..", a name with "/", or one of more than 30 signs."""
    if name in ('', '.', '..') or '/' in name or '\n' in name or len(name) > LONGEST:
        raise FileError('bad name')
    return check_text(name)


def folder_bytes(entries):
    """Return the bytes of a table of names to inode numbers, in ascending order of names."""
    data = []
    for name in sorted(entries):
        data.extend(pair(entries[name]))
        data.append(len(name))
        data.extend(numbers_of(name))
    return tuple(data)


def folder_from(data):
    """Return the table of a folder's bytes; raise CheckError for bytes that are none."""
    found = {}
    place = 0
    while place < len(data):
        if place + ROW_HEAD > len(data) or place + ROW_HEAD + data[place + 2] > len(data):
            raise CheckError('a folder ends within a name')
        end = place + ROW_HEAD + data[place + 2]
        name = text_of(data[place + ROW_HEAD:end])
        if name in found:
            raise CheckError('a folder has a name twice')
        found[name] = number_of_pair(data, place)
        place = end
    return found


def split_path(path):
    """Return (whether a path begins at the root, its names); empty names and "." are left out."""
    names = tuple([name for name in path.split('/') if name not in ('', '.')])
    return (path.startswith('/'), names)


def joined_path(names):
    """Return the path from the root of names."""
    return '/' + '/'.join(names)
