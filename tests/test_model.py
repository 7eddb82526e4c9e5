"""Deeds by chance, carried out by the file system and by a plain model: both tell the same and leave the same."""

import random
import unittest

from hoststack.files import mount
from hoststack.inode import FILE, FOLDER, LINK
from hoststack.names import change_mode, change_owner, drop_folder, link, rename, tree_of, unlink
from tests.helpers import contents, faults_of, new_files, word_of
from tests.model import Model, Wrong

NAMES = ('a', 'b', 'c', 'd', 'e', 'l', 'm', '..', '.', '', 'n' * 31)
KINDS = (('file', FILE, 52), ('folder', FOLDER, 61), ('link', LINK, 61))


def some_path(chance, most=4):
    names = [chance.choice(NAMES[:7] if chance.random() < 0.8 else NAMES) for _ in range(chance.randint(1, most))]
    start = '/' if chance.random() < 0.6 else ''
    return start + '/'.join(names) + chance.choice(('', '', '', '', '/', '/.', '/..'))


def wrong_word(deed):
    try:
        deed()
    except Wrong as error:
        return str(error)
    return None


class ModelTest(unittest.TestCase):
    most = 4

    def start(self, chance):
        """Return a folder, as a number and as a node of the model."""
        path = some_path(chance)
        try:
            node = self.model.find(path, self.model.root, 0)
        except Wrong:
            return 1, self.model.root
        if node.kind != 'folder':
            return 1, self.model.root
        return self.files.resolve(path), node

    def pair_of_deeds(self, chance):
        """Return the same deed for the files and for the model."""
        files, model = self.files, self.model
        number, node = self.start(chance)
        user = chance.choice((0, 0, 1, 2))
        one, two = some_path(chance, self.most), some_path(chance, self.most)
        mode, owner = chance.choice((63, 63, 61, 52, chance.randint(0, 63))), chance.randint(0, 2)
        offset, text = chance.randint(0, 300), 'xyz' * chance.randint(0, 40)
        word, kind, common = chance.choice(KINDS)
        content = two if word == 'link' and two != '' else ''
        if word == 'link' and content == '':
            word, kind = 'file', FILE
        rows = [
            (lambda: files.add(one, number, user, kind, mode, content),
             lambda: model.add(word, one, node, user, mode, content)),
            (lambda: unlink(files, one, number, user), lambda: model.unlink(one, node, user)),
            (lambda: drop_folder(files, one, number, user), lambda: model.drop_folder(one, node, user)),
            (lambda: link(files, one, two, number, user), lambda: model.link(one, two, node, user)),
            (lambda: rename(files, one, two, number, user), lambda: model.rename(one, two, node, user)),
            (lambda: change_mode(files, one, mode, number, user), lambda: model.change_mode(one, mode, node, user)),
            (lambda: change_owner(files, one, owner, number, user), lambda: model.change_owner(one, owner, node, user)),
            (lambda: files.write(files.resolve(one, number, user), offset, text),
             lambda: model.write(one, node, user, offset, text)),
            (lambda: self.listed.append(files.list_folder(one, number, user)),
             lambda: self.listed.append(model.list_folder(one, node, user))),
        ]
        return chance.choices(rows, (8, 1, 2, 2, 4, 1, 1, 3, 1))[0]

    def carry_out(self, seed, many, size):
        chance = random.Random(seed)
        self.files, self.model, self.listed = new_files(size, 1500, 150, chance.choice((1, 4, 16))), Model(), []
        words = {}
        for place in range(many):
            real, plain = self.pair_of_deeds(chance)
            word = wrong_word(plain)
            self.assertEqual(word_of(real), word, (seed, place))
            words[word] = words.get(word, 0) + 1
            self.assertEqual(tree_of(self.files), self.model.tree(), (seed, place))
            if place % 40 == 0:
                self.files.sync()
                self.files = mount(self.files.cache.journal.device.restarted(()))
                self.assertEqual(faults_of(self.files), [])
        self.assertEqual(self.listed[::2], self.listed[1::2])
        self.assertEqual(faults_of(self.files), [])
        return words

    def test_by_chance(self):
        words = {}
        for seed in range(12):
            for word, many in self.carry_out(seed, 250, (128, 200, 512)[seed % 3]).items():
                words[word] = words.get(word, 0) + many
        for word in (None, 'missing', 'exists', 'not a folder', 'is a folder', 'not a file', 'not empty', 'busy',
                     'denied', 'bad name', 'too many links'):
            self.assertGreater(words.get(word, 0), 0, word)

    def test_deep_folders(self):
        self.files, self.model, self.listed = new_files(128, 1500, 1000), Model(), []
        chance = random.Random(7)
        for place in range(400):
            depth = chance.randint(1, 31)
            one = '/' + '/'.join(['a'] * depth) + chance.choice(('', '/b', '/b/b'))
            two = '/' + '/'.join(['a'] * chance.randint(1, 31)) + chance.choice(('', '/b', '/c'))
            user = 0
            real, plain = chance.choice([
                (lambda: self.files.make_folder(one), lambda: self.model.add('folder', one, self.model.root, user, 61)),
                (lambda: self.files.make_folder(one), lambda: self.model.add('folder', one, self.model.root, user, 61)),
                (lambda: self.files.make_folder('/a' * 29), lambda: self.grow('/a' * 29)),
                (lambda: rename(self.files, one, two), lambda: self.model.rename(one, two, self.model.root, user))])
            word = wrong_word(plain)
            self.assertEqual(word_of(real), word, place)
            self.assertEqual(tree_of(self.files), self.model.tree())
            for depth in range(1, 30):
                if word is not None and place % 3 == 0:
                    word_of(lambda: self.files.make_folder('/a' * depth))
                    wrong_word(lambda: self.grow('/a' * depth))
        self.assertEqual(faults_of(self.files), [])

    def grow(self, path):
        self.model.add('folder', path, self.model.root, 0, 61)

    def test_refused_deeds_change_nothing(self):
        words = {}
        self.most = 2
        for seed in range(12):
            chance = random.Random(seed)
            self.files, self.model, self.listed = new_files(128, (34, 44, 60)[seed % 3], 12), Model(), []
            for place in range(120):
                # The model has room for all, so it stays empty here: paths begin at the root.
                real, plain = self.pair_of_deeds(chance)
                before = contents(self.files)
                word = word_of(real)
                words[word] = words.get(word, 0) + 1
                if word is not None:
                    self.assertEqual(contents(self.files), before, (seed, place, word))
                self.assertIsNone(self.files.cache.before)
            self.assertEqual(faults_of(self.files), [])
        for word in (None, 'missing', 'exists', 'no space', 'no inodes', 'busy', 'denied', 'not empty'):
            self.assertGreater(words.get(word, 0), 0, words)


if __name__ == '__main__':
    unittest.main()
