"""A plain model of the file system: the same deeds over objects in memory, told by the document's words."""


class Wrong(Exception):
    pass


class Node:
    def __init__(self, kind, mode, owner, text=''):
        self.kind, self.mode, self.owner, self.text = kind, mode, owner, text
        self.names = {}
        self.around = None


def slash(path):
    return path.endswith('/') or path.endswith('/.')


class Model:
    def __init__(self):
        self.root = Node('folder', 63, 0)
        self.root.around = self.root

    def allowed(self, node, user, sign):
        bit = {'r': 4, 'w': 2, 'x': 1}[sign]
        return user == 0 or bool(node.mode & (bit * 8 if user == node.owner else bit))

    def need(self, node, user, sign):
        if not self.allowed(node, user, sign):
            raise Wrong('denied')

    def walk(self, path, start, user, depth=0):
        """Return (folder, name or None, node or None)."""
        if depth > 8:
            raise Wrong('too many links')
        here = self.root if path.startswith('/') else start
        parts = [part for part in path.split('/') if part not in ('', '.')]
        if not parts:
            return here, None, here
        for place, part in enumerate(parts):
            if here.kind != 'folder':
                raise Wrong('not a folder')
            self.need(here, user, 'x')
            child = here.around if part == '..' else here.names.get(part)
            if place == len(parts) - 1:
                break
            if child is None:
                raise Wrong('missing')
            here = self.chase(child, here, user, depth)
        name = None if part == '..' else part
        if child is not None and slash(path):
            if child.kind == 'link':
                found = self.walk(child.text + '/', here, user, depth + 1)
                if found[2] is None:
                    raise Wrong('missing')
                return found
            if child.kind != 'folder':
                raise Wrong('not a folder')
        return here, name, child

    def chase(self, node, folder, user, depth):
        if node.kind != 'link':
            return node
        folder, name, found = self.walk(node.text, folder, user, depth + 1)
        if found is None:
            raise Wrong('missing')
        return self.chase(found, folder, user, depth + 1)

    def find(self, path, start, user, follow=True):
        folder, name, node = self.walk(path, start, user)
        if node is None:
            raise Wrong('missing')
        return self.chase(node, folder, user, 0) if follow else node

    def check_name(self, name):
        if len(name) > 30:
            raise Wrong('bad name')

    def level(self, folder):
        return 1 if folder is self.root else 1 + self.level(folder.around)

    def height(self, folder):
        return 1 + max([self.height(node) for node in folder.names.values() if node.kind == 'folder'], default=0)

    def add(self, kind, path, start, user, mode, text=''):
        folder, name, node = self.walk(path, start, user)
        if node is not None:
            raise Wrong('exists')
        self.check_name(name)
        self.need(folder, user, 'w')
        if kind != 'folder' and slash(path):
            raise Wrong('not a folder')
        if kind == 'folder' and self.level(folder) >= 30:
            raise Wrong('too deep')
        folder.names[name] = Node(kind, mode, user, text)
        folder.names[name].around = folder

    def named(self, path, start, user):
        folder, name, node = self.walk(path, start, user)
        if name is None:
            raise Wrong('busy')
        if node is None:
            raise Wrong('missing')
        return folder, name, node

    def unlink(self, path, start, user):
        folder, name, node = self.named(path, start, user)
        self.need(folder, user, 'w')
        if node.kind == 'folder':
            raise Wrong('is a folder')
        del folder.names[name]

    def drop_folder(self, path, start, user):
        folder, name, node = self.named(path, start, user)
        self.need(folder, user, 'w')
        if node.kind != 'folder':
            raise Wrong('not a folder')
        if node.names:
            raise Wrong('not empty')
        del folder.names[name]

    def link(self, old, new, start, user):
        node = self.find(old, start, user, False)
        if node.kind == 'folder':
            raise Wrong('is a folder')
        folder, name, there = self.walk(new, start, user)
        if there is not None:
            raise Wrong('exists')
        self.check_name(name)
        self.need(folder, user, 'w')
        folder.names[name] = node

    def rename(self, old, new, start, user):
        folder, name, node = self.named(old, start, user)
        target, word, there = self.walk(new, start, user)
        if word is None:
            raise Wrong('busy')
        if there is None:
            self.check_name(word)
        self.need(folder, user, 'w')
        self.need(target, user, 'w')
        if there is node:
            return
        if node.kind == 'folder':
            above = target
            while above is not self.root and above is not node:
                above = above.around
            if above is node:
                raise Wrong('busy')
            if self.level(target) + self.height(node) > 30:
                raise Wrong('too deep')
        if there is not None and node.kind == 'folder' and there.kind != 'folder':
            raise Wrong('not a folder')
        if there is not None and node.kind != 'folder' and there.kind == 'folder':
            raise Wrong('is a folder')
        if there is not None and there.names:
            raise Wrong('not empty')
        del folder.names[name]
        target.names[word] = node
        if node.kind == 'folder':
            node.around = target

    def change_mode(self, path, mode, start, user):
        node = self.find(path, start, user)
        if user not in (0, node.owner):
            raise Wrong('denied')
        node.mode = mode

    def change_owner(self, path, owner, start, user):
        node = self.find(path, start, user)
        if user != 0:
            raise Wrong('denied')
        node.owner = owner

    def list_folder(self, path, start, user):
        node = self.find(path, start, user)
        if node.kind != 'folder':
            raise Wrong('not a folder')
        self.need(node, user, 'r')
        return tuple(sorted(node.names))

    def write(self, path, start, user, offset, text):
        node = self.find(path, start, user)
        if node.kind != 'file':
            raise Wrong('not a file')
        if text != '':
            old = node.text + '\n' * (offset - len(node.text))
            node.text = old[:offset] + text + old[offset + len(text):]

    def tree(self, folder=None):
        rows = []
        for name, node in sorted((folder or self.root).names.items()):
            content = {'file': node.text, 'link': ('link', node.text)}.get(node.kind)
            rows.append((name, node.mode, node.owner, ('folder', self.tree(node)) if content is None else content))
        return tuple(rows)
