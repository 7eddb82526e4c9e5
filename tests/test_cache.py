import unittest

from hoststack.cache import Cache
from hoststack.device import Device
from hoststack.errors import DeviceError, JournalError
from hoststack.journal import Journal
from tests.helpers import loss_patterns

SIZE = 64
FIRST = 10
ZEROS = (0,) * SIZE


def row(number):
    return (number,) * SIZE


def new_cache(room=4, capacity=16, device=None):
    """A cache over a journal with room for so many blocks; blocks from FIRST on are for the tests."""
    return Cache(Journal(device or Device(SIZE, 60), 0, room + 1), capacity)


def change(cache, rows):
    cache.begin()
    for number, data in rows:
        cache.put(number, data)
    cache.end()


def state(cache):
    return (dict(cache.blocks), sorted(cache.dirty), cache.commits, cache.journal.device.steps)


def kept(cache, number):
    return cache.journal.device.blocks.get(number, ZEROS)


class OperationTest(unittest.TestCase):
    def test_fields_of_a_new_cache(self):
        cache = new_cache(capacity=3)
        self.assertEqual((cache.capacity, cache.blocks, cache.dirty, cache.commits), (3, {}, {}, 0))
        self.assertEqual(Cache(cache.journal).capacity, 16)

    def test_reads_after_changes(self):
        cache = new_cache()
        self.assertEqual(cache.read_block(10), ZEROS)
        cache.begin()
        cache.put(10, row(1))
        self.assertEqual(cache.read_block(10), row(1))
        cache.put(10, row(2))
        cache.put(11, list(row(3)))
        self.assertEqual((cache.read_block(10), cache.read_block(11)), (row(2), row(3)))
        cache.end()
        self.assertEqual((cache.read_block(10), cache.read_block(11)), (row(2), row(3)))
        self.assertEqual(cache.journal.device.steps, 0)

    def test_fields_after_each_call(self):
        cache = new_cache(capacity=2)
        cache.read_block(12)
        self.assertEqual((sorted(cache.blocks), sorted(cache.dirty), cache.commits), ([12], [], 0))
        cache.begin()
        cache.put(10, row(1))
        self.assertEqual((sorted(cache.blocks), sorted(cache.dirty), cache.commits), ([10, 12], [10], 0))
        cache.end()
        self.assertEqual((sorted(cache.blocks), sorted(cache.dirty), cache.commits), ([10, 12], [10], 0))
        cache.sync()
        self.assertEqual((sorted(cache.blocks), sorted(cache.dirty), cache.commits), ([10, 12], [], 1))
        cache.begin()
        cache.put(11, row(1))
        cache.undo()
        self.assertEqual((sorted(cache.blocks), sorted(cache.dirty), cache.commits), ([10, 11], [], 1))

    def test_undone_operations(self):
        cache = new_cache(device=Device(SIZE, 60, {11: row(8)}))
        change(cache, [(10, row(1))])
        cache.begin()
        for number in (10, 11, 12, 10):
            cache.put(number, row(9))
        self.assertEqual(cache.read_block(10), row(9))
        cache.undo()
        self.assertEqual([cache.read_block(number) for number in (10, 11, 12)], [row(1), row(8), ZEROS])
        self.assertEqual(sorted(cache.dirty), [10])
        cache.sync()
        self.assertEqual([kept(cache, number) for number in (10, 11, 12)], [row(1), row(8), ZEROS])
        change(cache, [(12, row(2))])
        self.assertEqual(cache.read_block(12), row(2))

    def test_wrong_calls_change_nothing(self):
        cache = new_cache()
        change(cache, [(10, row(1))])
        before = state(cache)
        with self.assertRaises(JournalError):
            cache.put(10, row(2))
        self.assertEqual(state(cache), before)
        cache.begin()
        cache.put(11, row(2))
        before = state(cache)
        for deed in (cache.begin, cache.sync):
            with self.assertRaises(JournalError):
                deed()
            self.assertEqual(state(cache), before)
        cache.undo()
        self.assertEqual((cache.read_block(10), cache.read_block(11)), (row(1), ZEROS))
        cache.begin()
        cache.end()
        cache.sync()
        self.assertEqual(kept(cache, 10), row(1))


class GroupTest(unittest.TestCase):
    def test_sync_keeps_all(self):
        cache = new_cache()
        change(cache, [(10, row(1)), (11, row(2))])
        change(cache, [(11, row(3))])
        self.assertEqual(kept(cache, 10), ZEROS)
        cache.sync()
        self.assertEqual((kept(cache, 10), kept(cache, 11)), (row(1), row(3)))
        self.assertEqual((cache.commits, cache.dirty), (1, {}))
        steps = cache.journal.device.steps
        self.assertEqual(steps, 2 * 2 + 6)
        cache.sync()
        self.assertEqual((cache.commits, cache.journal.device.steps), (1, steps))

    def test_an_operation_that_is_too_large(self):
        cache = new_cache(room=4)
        change(cache, [(10, row(1))])
        cache.begin()
        for number in range(10, 15):
            cache.put(number, row(9))
        before = cache.journal.device.steps
        with self.assertRaises(JournalError):
            cache.end()
        self.assertEqual([cache.read_block(number) for number in range(10, 15)], [row(1)] + [ZEROS] * 4)
        self.assertEqual((sorted(cache.dirty), cache.commits, cache.journal.device.steps), ([10], 0, before))
        change(cache, [(number, row(7)) for number in range(11, 15)])
        self.assertEqual(cache.commits, 1)

    def test_an_operation_of_just_the_room(self):
        cache = new_cache(room=4)
        change(cache, [(number, row(number)) for number in range(10, 14)])
        self.assertEqual((cache.commits, sorted(cache.dirty)), (0, [10, 11, 12, 13]))
        cache.sync()
        self.assertEqual([kept(cache, number) for number in range(10, 14)], [row(number) for number in range(10, 14)])

    def test_the_next_operation_commits_the_earlier_ones_alone(self):
        cache = new_cache(room=4)
        change(cache, [(10, row(1)), (11, row(1))])
        change(cache, [(12, row(2)), (11, row(2))])
        change(cache, [(13, row(3))])
        self.assertEqual((cache.commits, sorted(cache.dirty)), (0, [10, 11, 12, 13]))
        change(cache, [(10, row(4)), (14, row(4))])
        self.assertEqual((cache.commits, sorted(cache.dirty)), (1, [10, 14]))
        found = [kept(cache, number) for number in range(10, 15)]
        self.assertEqual(found, [row(1), row(2), row(2), row(3), ZEROS])
        self.assertEqual([cache.read_block(number) for number in (10, 14)], [row(4), row(4)])
        cache.sync()
        self.assertEqual((cache.commits, kept(cache, 10), kept(cache, 14)), (2, row(4), row(4)))

    def test_blocks_changed_again_do_not_make_a_group_larger(self):
        cache = new_cache(room=4)
        change(cache, [(number, row(1)) for number in range(10, 14)])
        for worth in range(2, 9):
            change(cache, [(number, row(worth)) for number in range(10, 14)])
        self.assertEqual((cache.commits, cache.journal.device.steps), (0, 0))


class CapacityTest(unittest.TestCase):
    def test_unchanged_blocks_are_dropped(self):
        for capacity in range(1, 6):
            cache = new_cache(capacity=capacity)
            for number in (10, 11, 12, 13, 14, 12):
                cache.read_block(number)
            order = [12, 14, 13, 11, 10]
            self.assertEqual(sorted(cache.blocks), sorted(order[:capacity]))

    def test_blocks_used_least_recently_are_dropped(self):
        cache = new_cache(capacity=3)
        for number in (10, 11, 12, 10, 13):
            cache.read_block(number)
        self.assertEqual(sorted(cache.blocks), [10, 12, 13])
        cache.read_block(12)
        cache.read_block(14)
        self.assertEqual(sorted(cache.blocks), [12, 13, 14])

    def test_changed_blocks_and_the_last_are_kept(self):
        cache = new_cache(capacity=1)
        cache.read_block(10)
        cache.begin()
        cache.put(11, row(1))
        self.assertEqual(sorted(cache.blocks), [11])
        cache.put(12, row(1))
        cache.read_block(13)
        self.assertEqual(sorted(cache.blocks), [11, 12, 13])
        cache.read_block(14)
        self.assertEqual(sorted(cache.blocks), [11, 12, 14])
        cache.end()
        self.assertEqual(sorted(cache.blocks), [11, 12, 14])
        cache.sync()
        self.assertEqual(sorted(cache.blocks), [14])
        self.assertEqual(cache.read_block(11), row(1))

    def test_what_is_undone_may_be_dropped(self):
        cache = new_cache(capacity=1)
        change(cache, [(10, row(1))])
        cache.begin()
        cache.put(11, row(1))
        cache.put(12, row(1))
        cache.undo()
        self.assertEqual(sorted(cache.blocks), [10, 12])

    def test_a_commit_lets_unchanged_blocks_be_dropped(self):
        cache = new_cache(room=2, capacity=2)
        change(cache, [(10, row(1)), (11, row(1))])
        change(cache, [(12, row(2))])
        self.assertEqual((sorted(cache.blocks), sorted(cache.dirty)), ([11, 12], [12]))
        self.assertEqual([cache.read_block(number) for number in (10, 11, 12)], [row(1), row(1), row(2)])

    def test_reads_are_right_at_every_capacity(self):
        for capacity in range(1, 8):
            cache = new_cache(room=3, capacity=capacity)
            wanted = {}
            for step in range(60):
                rows = [(10 + (step * 7 + place * 3) % 9, row((step + place) % 256)) for place in range(3)]
                change(cache, rows)
                wanted.update(rows)
                found = {number: cache.read_block(number) for number in sorted(wanted)}
                self.assertEqual(found, wanted)
                self.assertLessEqual(len(cache.blocks), max(capacity, len(cache.dirty) + 1))


class CrashTest(unittest.TestCase):
    DEEDS = ([(10, 1), (11, 1)], [(12, 2), (10, 2)], 'sync', [(13, 3), (10, 3)], [(14, 4), (15, 4), (10, 4)],
             [(11, 5)], [(10, 6), (11, 6), (12, 6), (13, 6)], 'sync', [(10, 7)], [(15, 8), (14, 8)], 'sync')

    def carry_out(self, device):
        """Carry out DEEDS; return what the blocks held after each operation that may be found after a crash."""
        cache = new_cache(room=4, device=device)
        worth = {number: 0 for number in range(10, 16)}
        found = [dict(worth)]
        try:
            for deed in self.DEEDS:
                if deed == 'sync':
                    cache.sync()
                    found = [dict(worth)]
                else:
                    change(cache, [(number, row(value)) for number, value in deed])
                    worth.update(deed)
                    found.append(dict(worth))
        except DeviceError:
            self.assertTrue(device.dead)
        return found

    def test_a_crash_at_every_step(self):
        whole = Device(SIZE, 60)
        self.assertEqual(len(self.carry_out(whole)), 1)
        self.assertGreater(whole.steps, 50)
        for fuse in range(whole.steps):
            device = Device(SIZE, 60)
            device.arm(fuse)
            allowed = self.carry_out(device)
            self.assertTrue(device.dead)
            for choices in loss_patterns(len(device.waiting)):
                again = device.restarted(choices)
                journal = Journal(again, 0, 5)
                journal.recover()
                cache = Cache(journal)
                rows = {number: cache.read_block(number) for number in range(10, 16)}
                self.assertEqual([len(set(data)) for data in rows.values()], [1] * 6, (fuse, choices))
                self.assertIn({number: data[0] for number, data in rows.items()}, allowed, (fuse, choices))

    def test_a_crash_changes_nothing_in_memory(self):
        for fuse in range(10):
            cache = new_cache(room=2)
            change(cache, [(10, row(1)), (11, row(1))])
            cache.journal.device.arm(fuse)
            cache.begin()
            cache.put(10, row(2))
            cache.put(12, row(2))
            blocks, dirty = dict(cache.blocks), dict(cache.dirty)
            with self.assertRaises(DeviceError):
                cache.end()
            self.assertEqual((cache.blocks, cache.dirty, cache.commits), (blocks, dirty, 0))
            cache.undo()
            self.assertEqual([cache.blocks[number] for number in (10, 11, 12)], [row(1), row(1), ZEROS])
            with self.assertRaises(DeviceError):
                cache.sync()
            self.assertEqual(sorted(cache.dirty), [10, 11])

    def test_reads_after_the_crash(self):
        cache = new_cache()
        change(cache, [(10, row(1))])
        cache.journal.device.arm(0)
        with self.assertRaises(DeviceError):
            cache.sync()
        before = (dict(cache.blocks), dict(cache.dirty))
        with self.assertRaises(DeviceError):
            cache.read_block(11)
        cache.begin()
        with self.assertRaises(DeviceError):
            cache.put(11, row(2))
        cache.undo()
        self.assertEqual((cache.blocks, cache.dirty), before)


if __name__ == '__main__':
    unittest.main()
