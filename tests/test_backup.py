"""Changes between two trees, and trees to which they are made."""

import random
import unittest

from hoststack.backup import apply_changes, changes, changes_text, flat, is_other_sort, sort_of
from hoststack.check import check
from hoststack.device import Device
from hoststack.errors import DeviceError, FileError
from hoststack.files import make_files, mount
from hoststack.names import change_mode, change_owner, drop_folder, link, rename, tree_of, unlink
from tests.helpers import contents, faults_of, new_files, word_of

TREE = (('a', 52, 0, 'text\n'), ('d', 61, 3, ('folder', (('e', 7, 4, ('folder', ())), ('l', 61, 0, ('link', '../a'))))))


def files_of(rows):
    """Return a file system that holds a tree."""
    files = new_files(64, 400)
    apply_changes(files, changes((), rows))
    return files


class FlatTest(unittest.TestCase):
    def test_flat(self):
        found = flat(TREE)
        self.assertEqual(found, {'/a': (52, 0, 'text\n'), '/d': (61, 3, 'folder'), '/d/e': (7, 4, 'folder'),
                                 '/d/l': (61, 0, ('link', '../a'))})
        self.assertIsInstance(found, dict)
        self.assertEqual(flat(()), {})

    def test_names_around(self):
        self.assertEqual(flat(TREE[:1], ('x', 'y')), {'/x/y/a': (52, 0, 'text\n')})
        self.assertEqual(sorted(flat(TREE, ('x',))), ['/x/a', '/x/d', '/x/d/e', '/x/d/l'])

    def test_sorts(self):
        rows = {'': 'file', 'a': 'file', 'link': 'file', 'folder': 'folder', ('link', 'a'): 'link',
                ('folder', ()): 'folder'}
        for content, sort in rows.items():
            self.assertEqual(sort_of(content), sort)
        for row in flat(TREE).values():
            self.assertIn(sort_of(row[2]), ('file', 'link', 'folder'))

    def test_other_sorts(self):
        contents_of_one = ('', 'a', ('link', 'a'), ('link', 'b'), 'folder')
        for one in contents_of_one:
            for other in contents_of_one:
                same = one == other or {one, other} == {'', 'a'}
                self.assertEqual(is_other_sort(one, other), not same, (one, other))


class ChangesTest(unittest.TestCase):
    def test_equal_trees(self):
        for rows in ((), TREE):
            self.assertEqual(changes(rows, rows), ())

    def test_all_is_made(self):
        self.assertEqual(changes((), TREE), (
            ('make', '/a', 52, 0, 'text\n'), ('make', '/d', 61, 3, 'folder'), ('make', '/d/e', 7, 4, 'folder'),
            ('make', '/d/l', 61, 0, ('link', '../a'))))

    def test_all_is_dropped_deepest_first(self):
        self.assertEqual(changes(TREE, ()), (('drop', '/d/l', 'link'), ('drop', '/d/e', 'folder'),
                                             ('drop', '/d', 'folder'), ('drop', '/a', 'file')))

    def test_texts_modes_and_owners(self):
        old = (('a', 52, 0, 'one'), ('b', 52, 0, 'b'), ('c', 52, 0, ''), ('d', 61, 0, ('folder', ())),
               ('l', 61, 0, ('link', 'x')))
        new = (('a', 52, 0, 'two'), ('b', 7, 0, 'b'), ('c', 52, 9, 'c'), ('d', 0, 1, ('folder', ())),
               ('l', 61, 5, ('link', 'x')))
        self.assertEqual(changes(old, new), (('write', '/a', 'two'), ('set', '/b', 7, 0), ('write', '/c', 'c'),
                                             ('set', '/c', 52, 9), ('set', '/d', 0, 1), ('set', '/l', 61, 5)))

    def test_other_classes(self):
        file, folder, short = 'text', ('folder', (('x', 52, 0, ''),)), ('link', 'a')
        within = (('make', '/n/x', 52, 0, ''),)
        rows = {
            (file, folder): (('drop', '/n', 'file'), ('make', '/n', 61, 0, 'folder')) + within,
            (folder, file): (('drop', '/n/x', 'file'), ('drop', '/n', 'folder'), ('make', '/n', 61, 0, 'text')),
            (short, folder): (('drop', '/n', 'link'), ('make', '/n', 61, 0, 'folder')) + within,
            (folder, short): (('drop', '/n/x', 'file'), ('drop', '/n', 'folder'), ('make', '/n', 61, 0, short)),
            (file, short): (('drop', '/n', 'file'), ('make', '/n', 61, 0, short)),
            (short, file): (('drop', '/n', 'link'), ('make', '/n', 61, 0, 'text')),
            (short, ('link', 'b')): (('drop', '/n', 'link'), ('make', '/n', 61, 0, ('link', 'b'))),
        }
        for (one, other), found in rows.items():
            old, new = (('n', 61, 0, one),), (('n', 61, 0, other),)
            self.assertEqual(changes(old, new), found)
            files = files_of(old)
            apply_changes(files, found)
            self.assertEqual(tree_of(files), new)

    def test_falling_and_rising_order(self):
        names = ('a', 'a b', 'a.b', 'ab', 'b')
        rows = tuple((name, 61, 0, ('folder', (('x', 52, 0, ''),))) for name in names)
        paths = [path for word, path, *more in changes((), rows)]
        self.assertEqual(paths, sorted(paths))
        dropped = [path for word, path, *more in changes(rows, ())]
        self.assertEqual(dropped, paths[::-1])
        self.assertEqual(tree_of(files_of(rows)), rows)

    def test_a_file_with_the_text_folder(self):
        old, new = (('f', 52, 0, 'a'), ('d', 61, 0, ('folder', ()))), (('d', 52, 0, 'folder'), ('f', 52, 0, 'folder'))
        files = files_of(old[::-1])
        apply_changes(files, changes(old[::-1], new))
        self.assertEqual(tree_of(files), new)
        apply_changes(files, changes(new, old[::-1]))
        self.assertEqual(tree_of(files), old[::-1])
        self.assertEqual(tree_of(files_of(new)), new)

    def test_text(self):
        self.assertEqual(changes_text(changes(TREE, (('a', 7, 0, 'x'), ('b', 52, 0, '')))),
                         'drop /d/l\ndrop /d/e\ndrop /d\nwrite /a\nset /a\nmake /b\n')
        self.assertEqual(changes_text(()), '')


class ApplyTest(unittest.TestCase):
    def setUp(self):
        self.files = new_files(64, 400)

    def tearDown(self):
        self.assertEqual(faults_of(self.files), [])
        check(self.files)
        self.assertEqual(self.files.holding, {})

    def refused(self, word, *rows):
        before = contents(self.files)
        self.assertEqual(word_of(lambda: apply_changes(self.files, rows)), word, rows)
        self.assertEqual(contents(self.files), before)

    def test_there_and_back(self):
        apply_changes(self.files, changes((), TREE))
        self.assertEqual(tree_of(self.files), TREE)
        apply_changes(self.files, changes(TREE, ()))
        self.assertEqual(tree_of(self.files), ())

    def test_long_texts(self):
        for text in ('x' * 199, 'x' * 200, 'x' * 201, 'abc\n' * 500, 'y' * 38 * 64, '', 'z'):
            old = tree_of(self.files)
            apply_changes(self.files, changes(old, (('f', 52, 0, text),)))
            self.assertEqual(tree_of(self.files), (('f', 52, 0, text),))

    def test_an_inode_keeps_its_number(self):
        number = self.files.create('/f')
        apply_changes(self.files, (('write', '/f', 'x' * 300), ('set', '/f', 0, 7), ('write', '/f', 'y')))
        self.assertEqual(self.files.resolve('/f'), number)

    def test_files_of_two_names_are_parted(self):
        for row, one, other in ((('write', '/b', 'new'), (52, 0, 'text'), (52, 0, 'new')),
                                (('set', '/b', 7, 3), (52, 0, 'text'), (7, 3, 'text')),
                                (('write', '/b', ''), (52, 0, 'text'), (52, 0, '')),
                                (('write', '/b', 'n' * 500), (52, 0, 'text'), (52, 0, 'n' * 500))):
            self.files = new_files()
            self.files.write(self.files.create('/a'), 0, 'text')
            link(self.files, '/a', '/b')
            apply_changes(self.files, [row])
            self.assertEqual(flat(tree_of(self.files)), {'/a': one, '/b': other})
            self.assertEqual([self.files.status(path).links for path in ('/a', '/b')], [1, 1])

    def test_links_of_two_names_are_parted(self):
        self.files.make_link('/a', 'x')
        link(self.files, '/a', '/b')
        apply_changes(self.files, [('set', '/a', 1, 2)])
        self.assertEqual(tree_of(self.files), (('a', 1, 2, ('link', 'x')), ('b', 61, 0, ('link', 'x'))))

    def test_two_names_that_stay_alike(self):
        self.files.write(self.files.create('/a'), 0, 'text')
        link(self.files, '/a', '/b')
        old = tree_of(self.files)
        new = (('a', 52, 0, 'new'), ('b', 52, 0, 'new'))
        apply_changes(self.files, changes(old, new))
        self.assertEqual(tree_of(self.files), new)
        self.files.create('/c')
        apply_changes(self.files, changes(tree_of(self.files), new))
        self.assertEqual(tree_of(self.files), new)

    def test_links_are_not_followed(self):
        self.files.write(self.files.create('/f'), 0, 'text')
        self.files.make_link('/l', 'f')
        apply_changes(self.files, [('set', '/l', 0, 9)])
        self.assertEqual(tree_of(self.files), (('f', 52, 0, 'text'), ('l', 0, 9, ('link', 'f'))))
        self.refused('not a file', ('write', '/l', 'x'))
        apply_changes(self.files, [('drop', '/l', 'link')])
        self.assertEqual(self.files.list_folder('/'), ('f',))

    def test_what_does_not_fit(self):
        files = self.files
        files.create('/f')
        files.make_folder('/d')
        files.create('/d/x')
        files.make_link('/l', 'f')
        for row in (('move', '/f', '/g'), ('drop',), ('drop', '/f'), ('drop', '/f', 'file', 1), ('make', '/x', 52, 0),
                    ('write', '/f'), ('set', '/f', 52), ('',), (), ('drop', '/f', 'link'), ('drop', '/l', 'file'),
                    ('drop', '/f', 'other')):
            self.refused('bad change', row)
        self.refused('missing', ('drop', '/x', 'file'))
        self.refused('missing', ('drop', '/x', 'folder'))
        self.refused('is a folder', ('drop', '/d', 'file'))
        self.refused('not a folder', ('drop', '/f', 'folder'))
        self.refused('not empty', ('drop', '/d', 'folder'))
        self.refused('busy', ('drop', '/', 'folder'))
        for content in ('', 'folder', ('link', 'a')):
            self.refused('exists', ('make', '/f', 52, 0, content))
            self.refused('exists', ('make', '/d', 52, 0, content))
            self.refused('missing', ('make', '/x/y', 52, 0, content))
            self.refused('bad mode', ('make', '/y', 64, 0, content))
            self.refused('bad name', ('make', '/' + 'n' * 31, 52, 0, content))
        self.refused('bad name', ('make', '/y', 61, 0, ('link', '')))
        self.refused('bad text', ('make', '/y', 52, 0, 'a%'))
        self.refused('too large', ('make', '/y', 52, 0, 'x' * (38 * 64 + 1)))
        self.refused('missing', ('write', '/x', 'a'))
        self.refused('not a file', ('write', '/d', 'a'))
        self.refused('bad text', ('write', '/f', 'a%'))
        self.refused('too large', ('write', '/f', 'x' * (38 * 64 + 1)))
        self.refused('missing', ('set', '/x', 52, 0))
        self.refused('bad mode', ('set', '/f', -1, 0))

    def test_what_was_done_before_is_kept(self):
        rows = (('make', '/a', 52, 0, 'a'), ('make', '/b', 52, 0, 'b'), ('drop', '/x', 'file'), ('make', '/c', 52, 0, ''))
        self.assertEqual(word_of(lambda: apply_changes(self.files, rows)), 'missing')
        self.assertEqual(tree_of(self.files), (('a', 52, 0, 'a'), ('b', 52, 0, 'b')))

    def test_no_space(self):
        self.files = files = new_files(64, 45, 16)
        files.write(files.create('/f'), 0, 'text')
        free = files.blocks.free_count()
        link(files, '/f', '/g')
        self.refused('no space', ('make', '/h', 52, 0, 'x' * 64 * (free + 1)))
        self.refused('no space', ('write', '/f', 'x' * 64 * (free + 1)))
        self.refused('too large', ('write', '/f', 'x' * (38 * 64 + 1)))
        self.refused('bad text', ('write', '/f', 'x' * 300 + '%'))
        unlink(files, '/g')
        self.refused('no space', ('write', '/f', 'x' * (64 * (free + 1) + 1)))
        apply_changes(files, [('write', '/f', 'x' * 64 * free)])
        self.assertEqual(files.blocks.free_count(), 0)
        apply_changes(files, [('write', '/f', 'y' * 64 * free)])
        self.assertEqual(files.read(2, 0, 9999), 'y' * 64 * free)

    def test_six_blocks_need_no_indirect_one(self):
        for many in (5, 6, 7):
            self.files = files = new_files(64, 45, 16)
            files.write(files.create('/f'), 0, 'x' * 64)
            rest = files.blocks.free_count() + 1 - (many if many < 7 else many + 1)
            files.write(files.create('/rest'), 0, 'x' * 64 * min(rest, 3))
            files.write(files.create('/more'), 0, 'x' * 64 * (rest - 3))
            self.refused('no space', ('write', '/f', 'x' * (64 * many + 1)))
            apply_changes(files, [('write', '/f', 'y' * 64 * many)])
            self.assertEqual((files.read(2, 0, 999), files.blocks.free_count()), ('y' * 64 * many, 0))

    def test_no_inodes(self):
        self.files = files = new_files(64, 200, 3)
        files.write(files.create('/f'), 0, 'text')
        link(files, '/f', '/g')
        self.refused('no inodes', ('write', '/g', 'x'))
        self.refused('no inodes', ('make', '/h', 52, 0, 'x'))


class ChanceTest(unittest.TestCase):
    def some_tree(self, chance, depth=0):
        rows = []
        for name in chance.sample(('a', 'b', 'c', 'd', 'e.f', 'folder'), chance.randint(0, 4)):
            kind = chance.random()
            if kind < 0.35 and depth < 3:
                content = ('folder', self.some_tree(chance, depth + 1))
            elif kind < 0.5:
                content = ('link', chance.choice(('x', '../y')))
            else:
                content = chance.choice(('', 'a', 'folder', 'text\n' * 3, 'x' * chance.randint(0, 700)))
            rows.append((name, chance.choice((52, 61, chance.randint(0, 63))), chance.randint(0, 3), content))
        return tuple(sorted(rows))

    def test_from_tree_to_tree(self):
        for seed in range(60):
            chance = random.Random(seed)
            files = new_files(64, 600, 100)
            for _ in range(4):
                old, new = tree_of(files), self.some_tree(chance)
                rows = changes(old, new)
                apply_changes(files, rows)
                self.assertEqual(tree_of(files), new)
                self.assertEqual(changes(tree_of(files), new), ())
                self.assertEqual(faults_of(files), [])
                self.assertEqual(len(changes_text(rows).splitlines()), len(rows))

    def test_deeds_and_their_changes(self):
        for seed in range(60):
            chance = random.Random(seed)
            one, other = new_files(64, 600, 100), new_files(64, 600, 100)
            for _ in range(40):
                paths = ['/' + '/'.join(chance.choices('abcd', k=chance.randint(1, 3))) for _ in range(2)]
                deed = chance.choice((
                    lambda: one.make_folder(paths[0]), lambda: one.create(paths[0]), lambda: unlink(one, paths[0]),
                    lambda: one.make_link(paths[0], 'a/b'), lambda: rename(one, *paths), lambda: link(one, *paths),
                    lambda: drop_folder(one, paths[0]), lambda: change_mode(one, paths[0], chance.randint(0, 63)),
                    lambda: change_owner(one, paths[0], chance.randint(0, 3)),
                    lambda: one.write(one.resolve(paths[0]), chance.randint(0, 90), 'text' * chance.randint(0, 30))))
                word_of(deed)
                if chance.random() < 0.3:
                    apply_changes(other, changes(tree_of(other), tree_of(one)))
                    self.assertEqual(tree_of(other), tree_of(one))
                    # What has several names in one has them in the other only where they came to be.
                    self.assertEqual(faults_of(other), [])

    def test_a_crash_at_every_step(self):
        chance = random.Random(5)
        base = Device(64, 500)
        files = make_files(base, 60)
        apply_changes(files, changes((), self.some_tree(chance)))
        files.write(files.create('/z'), 0, 'z' * 200)
        link(files, '/z', '/zz')
        files.sync()
        rows = changes(tree_of(files), self.some_tree(chance) + (('z', 52, 0, 'z' * 200), ('zz', 52, 0, 'new')))
        whole = base.restarted(())
        again = mount(whole)
        apply_changes(again, rows)
        again.sync()
        for fuse in range(whole.steps):
            device = base.restarted(())
            device.arm(fuse)
            with self.assertRaises(DeviceError):
                broken = mount(device)
                apply_changes(broken, rows)
                broken.sync()
            for choice in (0, 1, 2):
                found = mount(device.restarted((choice,) * len(device.waiting)))
                self.assertEqual(faults_of(found), [])
                check(found)

    def test_a_change_is_a_file_error(self):
        with self.assertRaises(FileError):
            apply_changes(new_files(), (('turn', '/a'),))


if __name__ == '__main__':
    unittest.main()
