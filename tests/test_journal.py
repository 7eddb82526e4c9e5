import unittest

from hoststack.device import Device
from hoststack.errors import DeviceError, JournalError
from hoststack.journal import Journal, head_of, head_room, read_head
from hoststack.letters import word_sum
from tests.helpers import loss_patterns

SIZE = 64
START = 2
ZEROS = (0,) * SIZE


def row(number):
    return tuple((number + place) % 256 for place in range(SIZE))


def new_device():
    """A device with a journal of 9 blocks at START and old bytes in blocks 20 to 29."""
    return Device(SIZE, 40, {number: row(number) for number in range(20, 30)})


def new_journal(device, count=9):
    return Journal(device, START, count)


GROUP = [(number, row(100 + number)) for number in (25, 20, 22)]
OLD = [row(number) for number in (25, 20, 22)]
NEW = [data for number, data in GROUP]


def homes(device):
    return [device.read(number) for number, data in GROUP]


class HeadTest(unittest.TestCase):
    def test_room(self):
        rows = {(64, 25): 11, (64, 12): 11, (64, 11): 10, (64, 2): 1, (64, 1): 0, (128, 25): 24, (114, 25): 23,
                (116, 25): 24, (4096, 25): 24, (4096, 2000): 1019, (24, 9): 1, (23, 9): 0, (20, 9): 0, (8, 9): 0}
        for (size, count), found in rows.items():
            self.assertEqual(head_room(size, count), found, (size, count))

    def test_bytes_of_a_head(self):
        start = (74, 82, 1, 2, 0, 2, 0, 7, 4, 0)
        datas = [row(1), row(2)]
        head = start + word_sum(start + row(1) + row(2))
        self.assertEqual(head_of(258, (7, 1024), datas, SIZE), head + (0,) * (SIZE - len(head)))
        self.assertEqual(len(head_of(258, [7, 1024], datas, 128)), 128)

    def test_head_there_and_back(self):
        head = head_of(258, (7, 1024), [row(1), row(2)], SIZE)
        self.assertEqual(read_head(head), (258, (7, 1024), head[10:14]))
        self.assertEqual(read_head(list(head)), (258, (7, 1024), head[10:14]))

    def test_head_of_the_greatest_group(self):
        numbers = tuple(range(300, 311))
        head = head_of(1, numbers, [row(number) for number in numbers], SIZE)
        self.assertEqual(set(head[SIZE // 2:]), {0})
        self.assertEqual(read_head(head)[1], numbers)

    def test_a_head_that_fills_its_block(self):
        numbers = tuple(range(27))
        head = head_of(1, numbers, [], SIZE)
        self.assertEqual(len(head), SIZE)
        self.assertEqual(read_head(head), (1, numbers, head[60:]))

    def test_blocks_that_are_no_head(self):
        head = head_of(1, (7, 8), [row(1), row(2)], SIZE)
        self.assertIsNone(read_head(ZEROS))
        self.assertIsNone(read_head((75,) + head[1:]))
        self.assertIsNone(read_head((74, 83) + head[2:]))
        self.assertIsNone(read_head(head[:4] + (255, 255) + head[6:]))
        self.assertIsNone(read_head(head[:4] + (0, 28) + head[6:]))
        self.assertIsNone(read_head(head[:-1] + (1,)))


class CommitTest(unittest.TestCase):
    def test_a_group_is_home(self):
        device = new_device()
        journal = new_journal(device)
        journal.commit(GROUP)
        self.assertEqual(homes(device), NEW)
        self.assertEqual(device.waiting, [])
        self.assertEqual(device.read(START), ZEROS)
        self.assertEqual(journal.pending(), [])
        self.assertEqual(device.read(21), row(21))

    def test_fields(self):
        journal = new_journal(new_device(), 5)
        self.assertEqual((journal.blocks, journal.room()), (5, 4))
        self.assertEqual(Journal(Device(SIZE, 40), 0, 25).room(), 11)

    def test_order_of_writes_and_flushes(self):
        device = new_device()
        told = []

        journal = Journal(device, START, 9)
        write_block, flush = device.write_block, device.flush
        device.write_block = lambda number, data: (told.append((number, data)), write_block(number, data))
        device.flush = lambda: (told.append('flush'), flush())
        journal.commit(GROUP)
        head = told[4]
        self.assertEqual(told[:4], [(3, NEW[0]), (4, NEW[1]), (5, NEW[2]), 'flush'])
        self.assertEqual(head[0], START)
        self.assertEqual(read_head(head[1])[1], (25, 20, 22))
        self.assertEqual(head[1], head_of(read_head(head[1])[0], (25, 20, 22), NEW, SIZE))
        self.assertEqual(told[5:], ['flush'] + GROUP + ['flush', (START, ZEROS), 'flush'])

    def test_a_group_of_just_the_room_and_one_more(self):
        for count in (2, 5, 12, 25):
            device = new_device()
            journal = Journal(device, 0, count)
            room = journal.room()
            self.assertEqual(room, min(count - 1, 11))
            rows = [(26 + number, row(number)) for number in range(room + 1)]
            with self.assertRaises(JournalError):
                journal.commit(rows)
            self.assertEqual((device.steps, device.waiting), (0, []))
            journal.commit(rows[:-1])
            self.assertEqual([device.read(number) for number, data in rows[:-1]], [data for number, data in rows[:-1]])

    def test_what_a_device_refuses_changes_nothing(self):
        for wrong in ((40, row(1)), (-1, row(1)), (21, row(1)[1:])):
            device = new_device()
            journal = new_journal(device)
            with self.assertRaises(DeviceError):
                journal.commit(GROUP + [wrong])
            self.assertEqual((device.steps, device.waiting, homes(device)), (0, [], OLD))
            self.assertEqual(journal.pending(), [])

    def test_groups_one_after_another(self):
        device = new_device()
        journal = new_journal(device)
        journal.commit(GROUP)
        journal.commit([(25, row(7))])
        journal.commit([(21, row(8)), (20, row(9))])
        self.assertEqual([device.read(number) for number in (25, 20, 21)], [row(7), row(9), row(8)])


class RecoverTest(unittest.TestCase):
    def crashed(self, fuse):
        """Return a device that crashed in a commit after so many steps, None if it did not."""
        device = new_device()
        device.arm(fuse)
        try:
            new_journal(device).commit(GROUP)
        except DeviceError:
            return device
        return None

    def check_whole(self, device, steps):
        """After 6 steps the head is kept: the group must be home; before the head is written, it must not be."""
        found = homes(device)
        self.assertIn(found, [OLD, NEW])
        if steps >= 6:
            self.assertEqual(found, NEW)
        if steps < 5:
            self.assertEqual(found, OLD)
        self.assertEqual(new_journal(device).pending(), [])
        self.assertEqual([device.read(number) for number in (21, 23, 24)], [row(number) for number in (21, 23, 24)])

    def test_crashes_at_every_step(self):
        crashes = 0
        for fuse in range(12):
            device = self.crashed(fuse)
            self.assertIsNotNone(device, fuse)
            for choices in loss_patterns(len(device.waiting)):
                found = device.restarted(choices)
                numbers = new_journal(found).recover()
                self.assertIn(numbers, [(), (25, 20, 22)])
                self.check_whole(found, fuse)
                self.assertEqual(new_journal(found).recover(), ())
                crashes = crashes + 1
        self.assertIsNone(self.crashed(12))
        self.assertGreater(crashes, 50)

    def test_a_head_of_which_half_is_kept_is_whole(self):
        device = self.crashed(5)
        self.assertEqual([number for number, data in device.waiting], [START])
        found = device.restarted((2,))
        self.assertEqual(new_journal(found).pending(), GROUP)
        self.assertEqual(new_journal(found).recover(), (25, 20, 22))
        self.assertEqual(homes(found), NEW)

    def test_the_greatest_group_survives_half_a_head(self):
        device = Device(SIZE, 80)
        rows = [(40 + number, row(number)) for number in range(11)]
        device.arm(13)
        with self.assertRaises(DeviceError):
            Journal(device, 1, 25).commit(rows)
        found = device.restarted((2,))
        self.assertEqual(Journal(found, 1, 25).recover(), tuple(range(40, 51)))
        self.assertEqual([found.read(40 + number) for number in range(11)], [data for number, data in rows])

    def test_crashes_while_it_is_recovered(self):
        for choices in ((1,), (2,)):
            for fuse in range(7):
                device = self.crashed(5).restarted(choices)
                device.arm(fuse)
                try:
                    new_journal(device).recover()
                    self.assertEqual(fuse, 6)
                except DeviceError:
                    self.assertLess(fuse, 6)
                for again in loss_patterns(len(device.waiting)):
                    found = device.restarted(again)
                    new_journal(found).recover()
                    self.assertEqual(homes(found), NEW)
                    self.assertEqual(new_journal(found).pending(), [])

    def test_steps_of_a_recovery(self):
        device = self.crashed(5).restarted((1,))
        new_journal(device).recover()
        self.assertEqual((device.steps, device.waiting, device.read(START)), (6, [], ZEROS))

    def test_a_device_that_has_crashed(self):
        journal = new_journal(self.crashed(5))
        for deed in (journal.pending, journal.recover, lambda: journal.commit(GROUP)):
            with self.assertRaises(DeviceError):
                deed()
        self.assertEqual(journal.device.steps, 5)

    def test_an_empty_journal(self):
        device = new_device()
        self.assertEqual(new_journal(device).pending(), [])
        self.assertEqual(new_journal(device).recover(), ())
        self.assertEqual(device.steps, 0)

    def test_a_head_with_one_byte_changed(self):
        whole = self.crashed(5).restarted((1,))
        head = whole.read(START)
        for place in range(SIZE):
            for change in (1, 128):
                device = whole.restarted(())
                device.blocks[START] = head[:place] + (head[place] ^ change,) + head[place + 1:]
                self.assertEqual(new_journal(device).pending(), [], place)
                self.assertEqual(new_journal(device).recover(), ())
                self.assertEqual(homes(device), OLD)

    def test_data_with_one_byte_changed(self):
        whole = self.crashed(5).restarted((1,))
        for block in (START + 1, START + 2, START + 3):
            data = whole.read(block)
            for place in range(SIZE):
                device = whole.restarted(())
                device.blocks[block] = data[:place] + ((data[place] + 1) % 256,) + data[place + 1:]
                self.assertEqual(new_journal(device).recover(), ())
                self.assertEqual(homes(device), OLD)

    def test_a_group_that_is_greater_than_the_journal(self):
        device = new_device()
        datas = [row(1), row(2), row(3)]
        device.blocks[START] = head_of(1, (20, 21, 22), datas, SIZE)
        for place, data in enumerate(datas):
            device.blocks[START + 1 + place] = data
        self.assertEqual(new_journal(device, 3).pending(), [])
        self.assertEqual(new_journal(device, 4).pending(), list(zip((20, 21, 22), datas)))


if __name__ == '__main__':
    unittest.main()
