"""Deeds and syncs with a crash at every step of the device: a mount finds the tree after some operation, whole."""

import unittest

from hoststack.device import Device
from hoststack.errors import DeviceError, FileError
from hoststack.files import make_files, mount
from hoststack.names import change_mode, change_owner, drop_folder, link, rename, tree_of, unlink
from tests.helpers import faults_of, loss_patterns


def write(path, offset, text):
    return lambda files: files.write(files.resolve(path), offset, text)


def drop_open(path):
    """Drop the name of a file that stays open."""
    def deed(files):
        files.hold(files.resolve(path))
        unlink(files, path)
    return deed


DEEDS = (
    lambda files: files.make_folder('/a', mode=63), lambda files: files.create('/a/f', user=3), write('/a/f', 0, 'one\n' * 20),
    lambda files: files.sync(), lambda files: files.make_link('/l', 'a/f'), write('/l', 75, 'two\n' * 40),
    lambda files: rename(files, '/a/f', '/g'), lambda files: link(files, '/g', '/a/h'),
    lambda files: files.make_folder('/a/b', user=4), lambda files: files.make_folder('/a'),
    lambda files: files.create('/a/b/x'), write('/a/b/x', 500, 'hole'), lambda files: files.sync(),
    write('/g', 200, 'three\n' * 33), lambda files: unlink(files, '/g'), drop_open('/a/h'),
    lambda files: change_mode(files, '/a/b', 7), lambda files: change_owner(files, '/a/b', 9),
    lambda files: rename(files, '/a/b', '/b'), lambda files: rename(files, '/l', '/b/x'),
    lambda files: drop_folder(files, '/b'), lambda files: unlink(files, '/b/x'), lambda files: drop_folder(files, '/b'),
    lambda files: files.sync(), lambda files: files.sync(), lambda files: files.create('/last'),
    write('/last', 0, 'x' * 200), lambda files: files.sync(),
)


def formatted(count=110):
    device = Device(64, count)
    make_files(device, 16)
    return device.restarted(())


def carry_out(files, deeds):
    """Return the trees that may be found after a crash: after the last sync that was done, and after each deed since."""
    found = [tree_of(files)]
    try:
        for deed in deeds:
            commits = files.cache.commits
            try:
                deed(files)
            except FileError:
                pass
            tree = tree_of(files)
            found.append(tree)
            if files.cache.dirty == {} and files.cache.commits > commits:
                found = [tree]
    except DeviceError:
        pass
    return found


class CrashTest(unittest.TestCase):
    def check_losses(self, device, allowed, told):
        """Mount what a crashed device may keep, once for each way of losing it, and look at what is found."""
        for choices in loss_patterns(len(device.waiting)):
            again = device.restarted(choices)
            files = mount(again)
            self.assertIn(tree_of(files), allowed, (told, choices))
            self.assertEqual(faults_of(files), [], (told, choices))

    def crash_everywhere(self, deeds, base):
        whole = base.restarted(())
        carry_out(mount(whole), deeds)
        self.assertFalse(whole.dead)
        for fuse in range(whole.steps):
            device = base.restarted(())
            device.arm(fuse)
            allowed = carry_out(mount(device), deeds)
            self.assertTrue(device.dead)
            self.check_losses(device, allowed, fuse)
        return whole.steps

    def test_deeds_and_syncs(self):
        self.assertGreater(self.crash_everywhere(DEEDS, formatted()), 100)

    def test_without_a_crash_all_is_there(self):
        device = formatted()
        files = mount(device)
        self.assertEqual(len(carry_out(files, DEEDS)), 1)
        found = mount(device.restarted(()))
        self.assertEqual(tree_of(found), tree_of(files))
        self.assertEqual([row[0] for row in tree_of(found)], ['a', 'last'])

    def test_a_small_cache(self):
        for capacity in (1, 2, 5):
            device = formatted()
            files = mount(device, capacity)
            carry_out(files, DEEDS)
            self.assertEqual(tree_of(mount(device.restarted(()))), tree_of(files))

    def test_crashes_while_it_is_mounted(self):
        device = formatted()
        files = mount(device)
        carry_out(files, DEEDS[:16])
        files.create('/extra')
        rename(files, '/extra', '/a/extra')
        device.arm(device.steps % 3 + 14)
        with self.assertRaises(DeviceError):
            files.sync()
        allowed = [tree_of(files)]
        for choices in loss_patterns(len(device.waiting)):
            steps = self.mount_steps(device.restarted(choices))
            for fuse in range(steps):
                again = device.restarted(choices)
                again.arm(fuse)
                with self.assertRaises(DeviceError):
                    mount(again).sync()
                self.check_losses(again, allowed, (choices, fuse))

    def mount_steps(self, device):
        mount(device).sync()
        return device.steps

    def test_crashes_while_it_is_made(self):
        base = formatted()
        files = mount(base)
        files.create('/old')
        files.sync()
        for before in (Device(64, 110), base.restarted(())):
            whole = before.restarted(())
            make_files(whole, 20)
            for fuse in range(whole.steps):
                device = before.restarted(())
                device.arm(fuse)
                with self.assertRaises(DeviceError):
                    make_files(device, 20)
                for choices in loss_patterns(len(device.waiting)):
                    self.check_made(device.restarted(choices))

    def check_made(self, device):
        """A device on which files were being made holds the old ones, whole, or the new ones, or none."""
        try:
            files = mount(device)
        except FileError as error:
            self.assertEqual(error.word, 'not formatted')
            return
        self.assertIn((files.layout.inodes, tree_of(files)), [(16, (('old', 52, 0, ''),)), (20, ())])
        self.assertEqual(faults_of(files), [])

    def test_a_device_that_has_crashed_is_not_read(self):
        device = formatted()
        files = mount(device)
        number = files.create('/f')
        files.write(number, 0, 'text')
        device.arm(3)
        with self.assertRaises(DeviceError):
            files.sync()
        found = mount(Device(64, 110, formatted().blocks))
        found.cache.journal.device = device
        for deed in (lambda: mount(device), lambda: make_files(device), lambda: tree_of(found), lambda: found.create('/g'),
                     lambda: found.read(number, 0, 9), lambda: found.status('/f'), lambda: found.list_folder('/'),
                     lambda: unlink(found, '/f'), lambda: found.readable_numbers(1), files.sync):
            found.cache.blocks.clear()
            with self.assertRaises(DeviceError):
                deed()
            self.assertIsNone(files.cache.before)
        self.assertEqual(device.steps, 3)
        self.assertEqual(tree_of(mount(device.restarted(()))), ())

    def test_a_new_file_system_is_kept(self):
        device = Device(64, 110)
        make_files(device)
        self.assertEqual(device.waiting, [])
        self.assertEqual(tree_of(mount(device.restarted(()))), ())

    def test_a_deed_that_meets_the_crash_changes_nothing(self):
        base = formatted()
        for fuse in range(0, 60):
            device = base.restarted(())
            device.arm(fuse)
            files = mount(device, 100)
            try:
                for deed in DEEDS:
                    tree = tree_of(files)
                    free = files.blocks.free_count()
                    try:
                        deed(files)
                    except FileError:
                        pass
            except DeviceError:
                self.assertEqual((tree_of(files), files.blocks.free_count()), (tree, free))
                self.assertIsNone(files.cache.before)
            self.assertTrue(device.dead)


if __name__ == '__main__':
    unittest.main()
