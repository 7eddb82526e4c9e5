"""Repairs: each damage that the document names, alone and several together, damage by chance, and crashes."""

import random
import unittest

from hoststack.check import check
from hoststack.device import Device
from hoststack.errors import DeviceError
from hoststack.files import make_files, mount
from hoststack.inode import fresh_inode
from hoststack.names import link, tree_of, unlink
from hoststack.repair import repair
from tests.helpers import damage, faults_of, in_operation, loss_patterns, new_files, set_entries
from tests.test_check import some_files


def lines_in(files, number):
    """Return (class, text) of a file or a symbolic link."""
    inode = files.blocks.inode(number)
    return (inode.sort_word(), files.read(number, 0, inode.size) if inode.kind == 1 else files.link_text(inode))


def drop_name(files, folder, name):
    """Drop a name, and change nothing else."""
    entries = files.entries(folder)
    del entries[name]
    set_entries(files, folder, entries)


def blocks_of(files, number):
    return sorted(files.blocks.blocks_of(files.blocks.inode(number)))


class RepairCase(unittest.TestCase):
    def setUp(self):
        self.files = some_files()
        self.tree = tree_of(self.files)

    def repaired(self, *deeds):
        """Check what a repair tells, and that it leaves a file system that is whole."""
        found = repair(self.files)
        self.assertEqual(found, deeds)
        self.check_whole(self.files)

    def check_whole(self, files):
        check(files)
        self.assertEqual(faults_of(files), [])
        self.assertEqual(repair(files), ())
        self.assertIsNone(files.cache.before)
        files.sync()
        again = mount(files.cache.journal.device.restarted(()))
        self.assertEqual(tree_of(again), tree_of(files))
        self.assertEqual(repair(again), ())

    def rows_without(self, *names):
        return tuple(row for row in self.tree if row[0] not in names)


class SoundTest(RepairCase):
    def test_nothing_is_done(self):
        self.files.sync()
        steps = self.files.cache.journal.device.steps
        self.repaired()
        self.assertEqual(tree_of(self.files), self.tree)
        self.assertEqual(self.files.cache.journal.device.steps, steps)

    def test_open_files_without_names_stay(self):
        self.files.hold(2)
        unlink(self.files, '/a')
        self.repaired_open()
        self.assertEqual(self.files.read(2, 0, 200), 'a' * 150)
        self.files.let_go(2)
        self.repaired()

    def repaired_open(self):
        self.assertEqual(repair(self.files), ())
        check(self.files)

    def test_a_new_file_system(self):
        self.files = new_files()
        self.repaired()


class InodeTest(RepairCase):
    def test_unknown_classes(self):
        blocks = blocks_of(self.files, 2)
        damage(self.files, 2, kind=9)
        self.repaired(('freed', 2), *[('marked', block) for block in blocks], ('dropped', 1))
        self.assertEqual(tree_of(self.files), self.rows_without('a'))
        self.assertEqual(self.files.blocks.inode(2).shown(), fresh_inode(0, 0, 0).shown())

    def test_unknown_classes_without_names(self):
        damage(self.files, 50, kind=255)
        self.repaired(('freed', 50))
        self.assertEqual(tree_of(self.files), self.tree)

    def test_a_file_of_several_names(self):
        damage(self.files, 3, kind=4)
        blocks = blocks_of(self.files, 3)
        self.repaired(('freed', 3), *[('marked', block) for block in blocks], ('dropped', 1), ('dropped', 4))

    def test_blocks_outside(self):
        for block in (1, self.files.layout.data_start - 1, self.files.layout.total, 65535):
            self.setUp()
            first, second = self.files.blocks.inode(3).direct[:2]
            damage(self.files, 3, direct=(first, block, 0, 0, 0, 0))
            self.repaired(('emptied', 3), ('marked', first), ('marked', second))
            self.assertEqual(lines_in(self.files, 3), ('file', ''))
            self.assertEqual(self.files.status('/d/b').shown(), ('file', 52, 0, 2, 0, (0,) * 6, 0))

    def test_an_indirect_block_outside(self):
        damage(self.files, 7, indirect=3)
        self.repaired(('emptied', 7))

    def test_blocks_of_another(self):
        first = self.files.blocks.inode(2).direct[0]
        second = self.files.blocks.inode(3).direct[0]
        damage(self.files, 3, direct=(first,) + self.files.blocks.inode(3).direct[1:])
        marked = blocks_of(self.files, 3)[1:] + [second]
        self.repaired(('emptied', 3), *[('marked', block) for block in sorted(marked)])
        self.assertEqual(lines_in(self.files, 2), ('file', 'a' * 150))
        self.assertEqual(lines_in(self.files, 3), ('file', ''))

    def test_a_block_twice_in_a_file(self):
        direct = self.files.blocks.inode(2).direct
        damage(self.files, 2, direct=(direct[0], direct[0], 0, 0, 0, 0))
        self.repaired(('emptied', 2), *[('marked', block) for block in sorted(direct[:3])])

    def test_what_is_emptied_leaves_its_blocks_to_others(self):
        block = self.files.blocks.inode(3).direct[0]
        direct = self.files.blocks.inode(2).direct
        damage(self.files, 2, direct=(block, 5, 0, 0, 0, 0))
        self.repaired(('emptied', 2), *[('marked', block) for block in sorted(direct[:3])])
        self.assertEqual(lines_in(self.files, 3), ('file', 'b' * 70))

    def test_too_large(self):
        blocks = blocks_of(self.files, 2)
        damage(self.files, 2, size=38 * 64 + 1)
        self.repaired(('emptied', 2), *[('marked', block) for block in blocks])

    def test_a_folder_is_emptied(self):
        block = self.files.blocks.inode(4).direct[0]
        damage(self.files, 4, direct=(3, 0, 0, 0, 0, 0))
        self.repaired(('emptied', 4), ('marked', block), ('freed', 5), ('counted', 3))
        self.assertEqual(self.files.list_folder('/d'), ())
        self.assertEqual(self.files.list_folder('/'), ('a', 'b', 'd', 'l', 'none'))

    def test_sizes_within_the_limit_stay(self):
        damage(self.files, 2, size=1000)
        self.repaired()
        self.assertEqual(self.files.read(2, 0, 2000), 'a' * 150 + '\n' * 850)


class BitmapTest(RepairCase):
    def mark(self, block, used):
        in_operation(self.files, lambda: self.files.blocks.mark([block], used))

    def test_marks(self):
        unused = self.files.blocks.unused(1)[0]
        last = self.files.layout.total - 1
        for block in (0, 1, self.files.layout.data_start):
            self.mark(block, False)
        for block in (unused, last):
            self.mark(block, True)
        marked = [0, 1, self.files.layout.data_start, unused, last]
        self.repaired(*[('marked', block) for block in marked])
        self.assertEqual(tree_of(self.files), self.tree)
        self.assertEqual([self.files.blocks.is_used(block) for block in marked], [True] * 3 + [False] * 2)


class FolderTest(RepairCase):
    def test_folders_that_cannot_be_read(self):
        damage(self.files, 4, size=5)
        self.repaired(('cleared', 4), ('freed', 5), ('counted', 3))
        self.assertEqual(self.files.status('/d').shown(), ('folder', 61, 0, 1, 0, (0,) * 6, 0))
        self.assertEqual([row for row in tree_of(self.files) if row[0] != 'd'], list(self.rows_without('d')))

    def test_folders_with_what_is_no_character(self):
        inode = self.files.blocks.inode(4)
        in_operation(self.files, lambda: self.files.blocks.write_data(inode, 3, (95,)))
        self.repaired(('cleared', 4), ('freed', 5), ('counted', 3))

    def test_a_root_that_cannot_be_read(self):
        damage(self.files, 1, size=2)
        self.repaired(('cleared', 1), ('found', 2), ('found', 4), ('found', 6), ('freed', 7), ('counted', 3))
        rows = dict((row[0], row) for row in self.tree)
        self.assertEqual([row[0] for row in tree_of(self.files)], ['found'])
        found = tree_of(self.files)[0]
        self.assertEqual(found[:3], ('found', 61, 0))
        self.assertEqual(found[3][1], tuple(('lost' + number,) + rows[name][1:]
                                            for number, name in (('2', 'a'), ('4', 'd'), ('6', 'l'))))

    def test_names_that_stand_for_nothing(self):
        for number in (0, 40, 63, 64, 65535):
            self.setUp()
            set_entries(self.files, 5, {'x': number, 'y': 3})
            self.repaired(('dropped', 5), ('counted', 3))
            self.assertEqual(self.files.entries(5), {'y': 3})

    def test_each_name_that_is_dropped_is_told(self):
        set_entries(self.files, 5, {'x': 40, 'y': 41, 'z': 42})
        set_entries(self.files, 4, {'b': 3, 'e': 5, 'f': 50})
        self.repaired(('dropped', 4), ('dropped', 5), ('dropped', 5), ('dropped', 5))
        self.assertEqual(tree_of(self.files), self.tree)

    def test_folders_with_two_names(self):
        for number in (1, 4, 5):
            self.setUp()
            set_entries(self.files, 5, {'x': number})
            self.repaired(('dropped', 5))
            self.assertEqual(tree_of(self.files), self.tree)

    def test_the_name_nearest_to_the_root_stays(self):
        entries = self.files.entries(1)
        entries['z'] = 5
        set_entries(self.files, 1, entries)
        self.repaired(('dropped', 4))
        self.assertEqual((self.files.resolve('/z'), self.files.list_folder('/d')), (5, ('b',)))

    def test_no_name_of_files_is_dropped(self):
        set_entries(self.files, 5, {'x': 2, 'y': 2, 'z': 6})
        self.repaired(('counted', 2), ('counted', 6))
        self.assertEqual([self.files.blocks.inode(number).links for number in (2, 6)], [3, 2])


class LostTest(RepairCase):
    def test_files_and_links(self):
        for name, number in (('a', 2), ('l', 6)):
            self.setUp()
            told = lines_in(self.files, number)
            drop_name(self.files, 1, name)
            self.repaired(('found', number))
            self.assertEqual(self.files.entries(self.files.resolve('/found')), {f'lost{number}': number})
            self.assertEqual(lines_in(self.files, number), told)
            self.assertEqual([row for row in tree_of(self.files) if row[0] != 'found'], list(self.rows_without(name)))

    def test_rights_and_owners_are_left(self):
        damage(self.files, 2, mode=7, owner=9)
        drop_name(self.files, 1, 'a')
        self.repaired(('found', 2))
        self.assertEqual(self.files.status('/found/lost2').shown()[:4], ('file', 7, 9, 1))

    def test_a_folder_with_all_that_is_in_it(self):
        row = [row for row in self.tree if row[0] == 'd'][0]
        drop_name(self.files, 1, 'd')
        self.repaired(('found', 4))
        self.assertEqual(tree_of(self.files, self.files.resolve('/found')), (('lost4',) + row[1:],))

    def test_what_is_empty_is_freed(self):
        drop_name(self.files, 1, 'none')
        drop_name(self.files, 4, 'e')
        self.repaired(('freed', 5), ('freed', 7))
        self.assertEqual(self.files.list_folder('/'), ('a', 'b', 'd', 'l'))

    def test_a_folder_below_a_greater_number(self):
        files = self.files = new_files()
        files.make_folder('/in')
        files.write(files.create('/in/f'), 0, 'text')
        files.make_folder('/out')
        entries = files.entries(1)
        set_entries(files, 4, {'in': entries['in']})
        set_entries(files, 1, {})
        self.repaired(('found', 4))
        self.assertEqual(files.read(files.resolve('/found/lost4/in/f'), 0, 9), 'text')

    def test_wrong_links_are_counted(self):
        drop_name(self.files, 1, 'a')
        damage(self.files, 2, links=0)
        self.repaired(('found', 2), ('counted', 2))

    def test_an_open_file_whose_name_was_lost(self):
        self.files.hold(2)
        drop_name(self.files, 1, 'a')
        self.repaired(('found', 2))
        self.files.hold(7)
        drop_name(self.files, 1, 'none')
        self.assertEqual(repair(self.files), (('counted', 7),))
        check(self.files)
        self.files.let_go(7)
        check(self.files)

    def test_found_is_used_again(self):
        drop_name(self.files, 1, 'a')
        self.repaired(('found', 2))
        drop_name(self.files, 1, 'b')
        drop_name(self.files, 4, 'b')
        self.repaired(('found', 3), ('counted', 3))
        self.assertEqual(self.files.list_folder('/found'), ('lost2', 'lost3'))

    def test_found_that_is_a_file(self):
        self.files.create('/found')
        drop_name(self.files, 1, 'a')
        drop_name(self.files, 1, 'd')
        self.repaired(('freed', 2), ('freed', 4), ('freed', 5), ('counted', 3))
        self.assertEqual(self.files.list_folder('/'), ('b', 'found', 'l', 'none'))

    def test_a_name_in_found_that_is_taken(self):
        self.files.make_folder('/found')
        link(self.files, '/b', '/found/lost2')
        drop_name(self.files, 1, 'a')
        self.repaired(('freed', 2))
        self.assertEqual(self.files.resolve('/found/lost2'), 3)

    def test_no_inode_for_found(self):
        self.files = files = new_files(inodes=3)
        files.write(files.create('/a'), 0, 'text')
        drop_name(files, 1, 'a')
        self.repaired(('freed', 2))
        self.assertEqual(files.blocks.free_count(), files.layout.total - files.layout.data_start)

    def test_no_block_for_found(self):
        self.files = files = new_files(64, 61)
        for name in 'abcdefghijklmnopqrstuvwxyz':
            if files.blocks.free_count() > 0:
                files.write(files.create('/' + name), 0, 'x' * 64)
        self.assertEqual(files.blocks.free_count(), 0)
        number = files.resolve('/a')
        drop_name(files, 1, 'a')
        deeds = repair(files)
        self.assertEqual(deeds[-1], ('freed', number))
        self.check_whole(files)

    def test_one_more_folder_around(self):
        self.files = files = new_files(64, 400, 100)
        path = ''
        for number in range(29):
            path = path + '/d'
            files.make_folder(path)
        drop_name(files, 1, 'd')
        self.repaired(('found', 2))
        self.assertEqual(files.resolve('/found/lost2' + '/d' * 28), 30)

    def test_rings(self):
        drop_name(self.files, 1, 'd')
        set_entries(self.files, 5, {'x': 4, 'f': 2})
        self.repaired(('dropped', 5), ('found', 4), ('counted', 2))
        self.assertEqual(self.files.list_folder('/found/lost4/e'), ('f',))

    def test_a_lost_folder_with_a_name_for_the_root(self):
        drop_name(self.files, 1, 'd')
        set_entries(self.files, 5, {'r': 1, 'f': 2})
        self.repaired(('dropped', 5), ('found', 4), ('counted', 2))
        self.assertEqual(self.files.list_folder('/'), ('a', 'b', 'found', 'l', 'none'))

    def test_folders_in_use(self):
        self.files.hold(4)
        self.files.hold(5)
        drop_name(self.files, 4, 'e')
        self.assertEqual(repair(self.files), (('counted', 5),))
        check(self.files)
        drop_name(self.files, 1, 'd')
        self.assertEqual(repair(self.files), (('found', 4),))
        check(self.files)
        self.files.let_go(5)
        self.files.let_go(4)
        self.repaired()
        self.assertEqual(self.files.list_folder('/found/lost4'), ('b',))

    def test_a_folder_in_use_without_room(self):
        self.files.create('/found')
        self.files.hold(4)
        drop_name(self.files, 1, 'd')
        self.repaired(('freed', 4), ('freed', 5), ('counted', 3))
        self.files.let_go(4)
        self.repaired()

    def test_an_open_file_without_room(self):
        self.files.create('/found')
        self.files.hold(2)
        drop_name(self.files, 1, 'a')
        self.assertEqual(repair(self.files), (('counted', 2),))
        check(self.files)
        self.assertEqual(self.files.read(2, 0, 200), 'a' * 150)
        self.files.let_go(2)
        self.repaired()

    def test_what_hangs_on_a_ring(self):
        files = self.files = new_files()
        for path in ('/x', '/a', '/a/b', '/a/b/c'):
            files.make_folder(path)
        files.write(files.create('/x/f'), 0, 'text')
        set_entries(files, 1, {})
        set_entries(files, 5, {'x': 2, 'a': 3})
        self.repaired(('dropped', 5), ('found', 3))
        self.assertEqual(files.read(files.resolve('/found/lost3/b/c/x/f'), 0, 9), 'text')


class RootTest(RepairCase):
    def test_a_root_of_an_unknown_class(self):
        block = self.files.blocks.inode(1).direct[0]
        damage(self.files, 1, kind=77)
        self.repaired(('freed', 1), ('marked', block), ('made', 1), ('found', 2), ('found', 4), ('found', 6),
                      ('freed', 7), ('counted', 3))
        self.assertEqual(self.files.status('/').shown()[:4], ('folder', 63, 0, 1))

    def test_a_root_that_is_free(self):
        block = self.files.blocks.inode(1).direct[0]
        damage(self.files, 1, kind=0)
        self.repaired(('marked', block), ('made', 1), ('found', 2), ('found', 4), ('found', 6), ('freed', 7),
                      ('counted', 3))

    def test_a_root_that_is_a_file_or_a_link(self):
        for kind in (1, 3):
            self.setUp()
            damage(self.files, 1, kind=kind)
            self.repaired(('made', 1), ('found', 2), ('found', 4), ('found', 6), ('freed', 7), ('counted', 3))

    def test_an_empty_file_system(self):
        self.files = new_files()
        damage(self.files, 1, kind=0)
        self.repaired(('made', 1))
        self.assertEqual(tree_of(self.files), ())


class CountTest(RepairCase):
    def test_links(self):
        for number in range(1, 8):
            for links in (0, 3, 65535):
                self.setUp()
                damage(self.files, number, links=links)
                self.repaired(('counted', number))
                self.assertEqual(tree_of(self.files), self.tree)


class CleanTest(RepairCase):
    def overwrite(self, number, offset, data):
        inode = self.files.blocks.inode(number)
        in_operation(self.files, lambda: self.files.blocks.write_data(inode, offset, data))

    def test_files(self):
        self.overwrite(2, 1, (95, 255, 94, 0))
        self.overwrite(2, 130, (128,))
        self.repaired(('cleaned', 2))
        self.assertEqual(self.files.read(2, 0, 200), 'a\n\n~\n' + 'a' * 125 + '\n' + 'a' * 19)

    def test_links(self):
        self.overwrite(6, 2, (100,))
        self.repaired(('cleaned', 6))
        self.assertEqual(lines_in(self.files, 6), ('link', 'd/\n'))

    def test_what_stands_behind_the_end_is_no_character_of_it(self):
        block = self.files.blocks.inode(2).direct[2]
        data = self.files.cache.read_block(block)
        in_operation(self.files, lambda: self.files.cache.put(block, data[:22] + (200,) * 42))
        self.repaired()
        self.assertEqual(tree_of(self.files), self.tree)

    def test_holes(self):
        self.files.write(7, 1000, 'x')
        self.overwrite(7, 1000, (99,))
        self.repaired(('cleaned', 7))
        self.assertEqual(self.files.read(7, 0, 2000), '\n' * 1001)


class SeveralTest(RepairCase):
    def test_in_order(self):
        files = self.files
        files.write(files.create('/e'), 0, 'e')
        files.make_folder('/g')
        files.create('/g/f')
        files.make_folder('/h')
        inode = files.blocks.inode(2)
        in_operation(files, lambda: files.blocks.write_data(inode, 0, (99,)))
        block = files.blocks.inode(8).direct[0]
        unused = files.blocks.unused(1)[0]
        in_operation(files, lambda: files.blocks.mark([unused], True))
        damage(files, 60, kind=8)
        damage(files, 8, direct=(2, 0, 0, 0, 0, 0))
        damage(files, 9, size=1)
        set_entries(files, 11, {'q': 50, 'r': 1})
        damage(files, 3, links=7)
        drop_name(files, 1, 'l')
        self.repaired(('emptied', 8), ('freed', 60), *[('marked', number) for number in sorted((block, unused))],
                      ('cleared', 9), ('dropped', 11), ('dropped', 11), ('found', 6), ('freed', 10), ('counted', 3),
                      ('cleaned', 2))

    def test_fragmented_files_in_a_great_bitmap(self):
        self.files = files = make_files(Device(64, 20000))
        number = files.create('/f')
        for place in range(38):
            files.write(number, place * 64, 'x')
        inode = files.blocks.inode(number)
        row = [15000 - 512 * place for place in range(26)]
        data = [byte for place in row for byte in (place // 256, place % 256)] + [0] * 12
        in_operation(files, lambda: files.cache.put(inode.indirect, tuple(data)))
        damage(files, number, kind=2)
        files.sync()
        told = repair(files)
        self.assertIn(('cleared', number), told)
        self.check_whole(files)


class ChanceTest(RepairCase):
    def filled(self, chance, size, many=30):
        """Return a synced file system of some depth."""
        files = make_files(Device(size, 260), many + 10)
        folders = ['']
        for number in range(chance.randint(3, many)):
            path = f'{chance.choice(folders)}/{chance.choice("abc")}{number}'
            kind = chance.random()
            if kind < 0.35 and path.count('/') < 20:
                files.make_folder(path)
                folders.append(path)
            elif kind < 0.85:
                made = files.create(path, mode=chance.randint(0, 63))
                for place in range(chance.randint(0, 3)):
                    files.write(made, chance.randint(0, 8 * size), chance.choice('xyz') * chance.randint(0, 200))
            else:
                files.make_link(path, chance.choice(('a', '/x/y', '..', 'found')))
        files.sync()
        return files

    def change_bytes(self, chance, device, blocks, many):
        for _ in range(many):
            block = chance.choice(blocks)
            data = list(device.read(block))
            for _ in range(chance.randint(1, 4)):
                data[chance.randrange(len(data))] = chance.choice((0, 1, 2, 3, chance.randint(0, 255)))
            device.blocks[block] = tuple(data)

    def damaged(self, chance, files, many):
        layout = files.layout
        device = files.cache.journal.device.restarted(())
        parts = [range(layout.table_start, layout.bitmap_start), range(layout.bitmap_start, layout.data_start),
                 [block for block in range(layout.data_start, layout.total) if block in device.blocks]]
        blocks = [block for part in chance.sample(parts, chance.randint(1, 3)) for block in part]
        self.change_bytes(chance, device, blocks or [layout.table_start], many)
        return mount(device, chance.choice((2, 16)))

    def test_random_bytes(self):
        words = {}
        for seed in range(250):
            chance = random.Random(seed)
            files = self.damaged(chance, self.filled(chance, (64, 96, 128)[seed % 3]), chance.randint(1, 12))
            if seed % 20 == 0:
                damage(files, 1, kind=chance.choice((0, 1, 3, 99)))
            for word, number in repair(files):
                words[word] = words.get(word, 0) + 1
            self.check_whole(files)
            tree_of(files)
        for word in ('freed', 'emptied', 'marked', 'cleared', 'dropped', 'found', 'made', 'counted', 'cleaned'):
            self.assertGreater(words.get(word, 0), 2, words)

    def test_what_was_not_damaged_is_left(self):
        for seed in range(150):
            chance = random.Random(seed)
            files = self.filled(chance, 96)
            number = chance.randint(2, 39)
            inode = files.blocks.inode(number)
            told = {other: lines_in(files, other) for other in range(2, 40) if files.blocks.inode(other).kind in (1, 3)}
            field = chance.choice(('kind', 'mode', 'owner', 'links', 'size'))
            damage(files, number, **{field: chance.randint(0, 255)})
            if inode.kind == 2 and field == 'kind':
                continue
            repair(files)
            self.check_whole(files)
            for other in told:
                if other != number and (told[other][1] != '' or files.blocks.inode(other).kind != 0):
                    self.assertEqual(lines_in(files, other), told[other], (seed, other))

    def test_a_table_of_chance(self):
        for seed in range(40):
            chance = random.Random(seed)
            files = self.filled(chance, 64)
            device = files.cache.journal.device.restarted(())
            for block in range(files.layout.table_start, files.layout.data_start):
                device.blocks[block] = tuple(chance.choice((0, 0, 1, 2, 3, 60, 80, 255)) for _ in range(64))
            files = mount(device)
            repair(files)
            self.check_whole(files)

    def test_crashes(self):
        for seed in range(6):
            chance = random.Random(seed)
            files = self.damaged(chance, self.filled(chance, 64, 12), 6)
            base = files.cache.journal.device
            files.sync()
            whole = base.restarted(())
            again = mount(whole)
            repair(again)
            again.sync()
            for fuse in range(whole.steps):
                device = base.restarted(())
                device.arm(fuse)
                with self.assertRaises(DeviceError):
                    broken = mount(device)
                    repair(broken)
                    broken.sync()
                choices = chance.choice(loss_patterns(len(device.waiting)))
                found = mount(device.restarted(choices))
                repair(found)
                self.check_whole(found)


if __name__ == '__main__':
    unittest.main()
