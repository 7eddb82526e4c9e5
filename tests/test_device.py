import unittest

from hoststack.device import Device
from hoststack.errors import DeviceError

ZEROS = (0, 0, 0, 0)
ONE = (1, 2, 3, 4)
TWO = (5, 6, 7, 8)
THREE = (9, 10, 11, 12)


def state(device):
    return (dict(device.blocks), list(device.waiting), device.fuse, device.dead, device.steps)


class DeviceTest(unittest.TestCase):
    def test_fields_of_a_new_device(self):
        device = Device(4, 3)
        self.assertEqual((device.block_size, device.total), (4, 3))
        self.assertEqual(state(device), ({}, [], None, False, 0))

    def test_blocks_that_are_given(self):
        given = {1: ONE}
        device = Device(4, 3, given)
        self.assertEqual(device.read(1), ONE)
        device.write_block(1, TWO)
        device.flush()
        self.assertEqual(given, {1: ONE})

    def test_a_block_never_written_reads_as_zeros(self):
        device = Device(4, 3)
        self.assertEqual([device.read(number) for number in range(3)], [ZEROS] * 3)

    def test_a_block_reads_as_last_written(self):
        device = Device(4, 3)
        device.write_block(1, ONE)
        self.assertEqual(device.read(1), ONE)
        self.assertEqual(device.read(0), ZEROS)
        device.flush()
        self.assertEqual(device.read(1), ONE)
        device.write_block(1, TWO)
        device.write_block(1, THREE)
        self.assertEqual(device.read(1), THREE)

    def test_fields_after_each_call(self):
        device = Device(4, 3)
        device.write_block(1, ONE)
        self.assertEqual(state(device), ({}, [(1, ONE)], None, False, 1))
        device.write_block(1, TWO)
        device.read(1)
        self.assertEqual(state(device), ({}, [(1, ONE), (1, TWO)], None, False, 2))
        device.flush()
        self.assertEqual(state(device), ({1: TWO}, [], None, False, 3))
        device.step()
        self.assertEqual(state(device), ({1: TWO}, [], None, False, 4))
        device.arm(2)
        self.assertEqual(state(device), ({1: TWO}, [], 2, False, 4))
        device.arm(None)
        self.assertEqual(state(device), ({1: TWO}, [], None, False, 4))

    def test_bytes_are_kept_as_a_tuple(self):
        device = Device(4, 3)
        row = [1, 2, 3, 4]
        device.write_block(0, row)
        row[0] = 99
        self.assertEqual(device.read(0), ONE)

    def test_reads_until_the_crash(self):
        device = Device(4, 3)
        device.arm(2)
        device.write_block(0, ONE)
        device.write_block(0, TWO)
        self.assertEqual((device.read(0), device.read(1)), (TWO, ZEROS))
        with self.assertRaises(DeviceError):
            device.flush()
        for number in range(3):
            with self.assertRaises(DeviceError):
                device.read(number)
        self.assertEqual(state(device), ({}, [(0, ONE), (0, TWO)], 0, True, 2))

    def test_wrong_calls_change_nothing(self):
        device = Device(4, 3)
        device.write_block(0, ONE)
        device.arm(0)
        before = state(device)
        for number in (-1, 3, 4, 1000):
            with self.assertRaises(DeviceError):
                device.read(number)
            with self.assertRaises(DeviceError):
                device.write_block(number, ONE)
        for data in ((), (1, 2, 3), (1, 2, 3, 4, 5)):
            with self.assertRaises(DeviceError):
                device.write_block(0, data)
        self.assertEqual(state(device), before)


class CrashTest(unittest.TestCase):
    def test_choices_of_one_write(self):
        for choices, found in (((), ZEROS), ((0,), ZEROS), ((1,), ONE), ((2,), (1, 2, 0, 0))):
            device = Device(4, 3)
            device.write_block(2, ONE)
            self.assertEqual(device.restarted(choices).read(2), found)

    def test_choices_over_what_was_kept(self):
        for choices, found in (((), ONE), ((0,), ONE), ((1,), TWO), ((2,), (5, 6, 3, 4))):
            device = Device(4, 3, {2: ONE})
            device.write_block(2, TWO)
            self.assertEqual(device.restarted(choices).read(2), found)

    def test_choices_of_several_writes_of_a_block(self):
        rows = {(0, 0): ZEROS, (1, 0): ONE, (0, 1): TWO, (1, 1): TWO, (1, 2): (5, 6, 3, 4), (2, 2): (5, 6, 0, 0),
                (2, 1): TWO, (2, 0): (1, 2, 0, 0), (0, 2): (5, 6, 0, 0), (1,): ONE, (2,): (1, 2, 0, 0), (): ZEROS}
        for choices, found in rows.items():
            device = Device(4, 3)
            device.write_block(2, ONE)
            device.write_block(2, TWO)
            self.assertEqual(device.restarted(choices).read(2), found, choices)

    def test_choices_of_several_blocks(self):
        device = Device(4, 3, {0: THREE})
        device.write_block(0, ONE)
        device.write_block(1, ONE)
        device.write_block(2, ONE)
        found = device.restarted([0, 2, 1])
        self.assertEqual([found.read(number) for number in range(3)], [THREE, (1, 2, 0, 0), ONE])
        found = device.restarted((1,))
        self.assertEqual([found.read(number) for number in range(3)], [ONE, ZEROS, ZEROS])

    def test_half_of_an_odd_block(self):
        device = Device(5, 1)
        device.write_block(0, (1, 2, 3, 4, 5))
        self.assertEqual(device.restarted((2,)).read(0), (1, 2, 0, 0, 0))

    def test_more_choices_than_writes(self):
        device = Device(4, 3)
        device.write_block(0, ONE)
        self.assertEqual(device.restarted((1, 2, 1, 0)).blocks, {0: ONE})

    def test_flushed_blocks_are_kept(self):
        device = Device(4, 3)
        device.write_block(0, ONE)
        device.flush()
        device.write_block(0, TWO)
        self.assertEqual(device.restarted(()).read(0), ONE)

    def test_a_restarted_device_is_another_one(self):
        device = Device(4, 3)
        device.write_block(0, ONE)
        device.arm(0)
        with self.assertRaises(DeviceError):
            device.flush()
        found = device.restarted((1,))
        self.assertEqual(state(found), ({0: ONE}, [], None, False, 0))
        self.assertEqual((found.block_size, found.total), (4, 3))
        found.write_block(0, TWO)
        found.flush()
        self.assertEqual(state(device), ({}, [(0, ONE)], 0, True, 1))
        self.assertEqual(device.restarted((1,)).read(0), ONE)

    def test_fuse_over_writes_and_flushes(self):
        for fuse in range(7):
            device = Device(4, 3)
            device.arm(fuse)
            done = 0
            try:
                for number in (0, 1, 2):
                    device.write_block(number, ONE)
                    done = done + 1
                    device.flush()
                    done = done + 1
            except DeviceError:
                self.assertTrue(device.dead)
            self.assertEqual(done, min(fuse, 6))
            self.assertEqual(device.dead, fuse < 6)
            self.assertEqual(device.steps, done)
            self.assertEqual(device.fuse, fuse - done)
            self.assertEqual(sorted(device.blocks), list(range(done // 2)))
            self.assertEqual([number for number, data in device.waiting], [done // 2] if done % 2 == 1 else [])

    def test_reads_do_not_count(self):
        device = Device(4, 3)
        device.arm(1)
        for number in (0, 1, 2, 0):
            device.read(number)
        device.write_block(0, ONE)
        self.assertFalse(device.dead)

    def test_each_call_after_the_crash(self):
        device = Device(4, 3, {1: TWO})
        device.write_block(0, ONE)
        device.arm(0)
        with self.assertRaises(DeviceError):
            device.step()
        before = state(device)
        self.assertEqual(before, ({1: TWO}, [(0, ONE)], 0, True, 1))
        for deed in (device.step, device.flush, lambda: device.write_block(1, ONE), lambda: device.read(0),
                     lambda: device.read(1), lambda: device.read(2), lambda: device.read(3)):
            with self.assertRaises(DeviceError):
                deed()
            self.assertEqual(state(device), before)
        found = device.restarted((2,))
        self.assertEqual((found.read(0), found.read(1), found.read(2)), ((1, 2, 0, 0), TWO, ZEROS))
        self.assertEqual(state(device), before)
        device.arm(None)
        with self.assertRaises(DeviceError):
            device.flush()
        self.assertTrue(device.dead)


if __name__ == '__main__':
    unittest.main()
