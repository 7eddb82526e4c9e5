"""Scripts on a device that crashes at any step: what is mounted then is whole, and none before the last sync."""

import random
import unittest

from hoststack.check import check
from hoststack.device import Device
from hoststack.errors import DeviceError, StuckError
from hoststack.host import host_of, new_host
from hoststack.names import tree_of
from tests.test_promise import ENTERED, chance_text

SCRIPT = '''mkdir d; echo one > d/a; sync
for x in 1 2 3; do echo $x >> d/a; cp d/a d/b$x; done
{ sort -r d/a | cat > d/c; } && sync
mv d e & seq 1 60 > f; wait
{ rm e/a; read x; sync; echo $x > g; } < e/a
ln -s e/c l; ln g e/g; chmod 77 e; sync
echo $(cat e/b2 l) >> f; rm e/b1 e/b2; echo end > h'''
MANY = 'for x in $(seq 10 24); do echo $x > n$x; mkdir m$x; mv n$x m$x/n; done; sync; for x in m*; do rm $x/n; rmdir $x; done'


class Recorder:
    """A host whose operations are noted: the tree after each, and how many there were at the last sync."""

    def __init__(self, device):
        self.host = new_host(device, 100)
        self.files = self.host.files
        self.device = device
        self.trees = [tree_of(self.files)]
        self.synced = 0
        self.carry_out = self.files.carry_out
        self.sync = self.files.sync
        self.files.carry_out = self.noted
        self.files.sync = self.noted_sync

    def noted(self, deed):
        found = self.carry_out(deed)
        # A crash is counted in the device's steps, which reading a tree does not change.
        self.trees.append(tree_of(self.files))
        return found

    def noted_sync(self):
        self.sync()
        self.synced = len(self.trees) - 1


def whole_steps(script, choices, most, entered):
    """Return (trees after all operations, steps of the device) of a script without a crash."""
    recorder = Recorder(Device(128, 900))
    first = recorder.device.steps
    run(recorder, script, choices, most, entered)
    recorder.files.sync()
    return recorder.trees, recorder.device.steps - first


def run(recorder, script, choices, most, entered):
    try:
        recorder.host.run(script, choices, entered, most)
    except StuckError:
        pass


class CrashTest(unittest.TestCase):
    def check_script(self, script, chance, stride, choices=(), most=100000, entered=''):
        """Check what is found after a crash at each step of the device, or at each so many."""
        trees, steps = whole_steps(script, choices, most, entered)
        for fuse in range(chance.randrange(stride), steps, stride):
            recorder = Recorder(Device(128, 900))
            recorder.device.arm(fuse)
            with self.assertRaises(DeviceError):
                run(recorder, script, choices, most, entered)
                recorder.files.sync()
            self.assertTrue(recorder.device.dead)
            self.assertEqual(recorder.trees, trees[:len(recorder.trees)])
            # The operation that the crash came into may be there, too.
            allowed = trees[recorder.synced:len(recorder.trees) + 1]
            waiting = len(recorder.device.waiting)
            for kept in ((), (1,) * waiting, (2,) * waiting, [chance.randrange(3) for _ in range(waiting)]):
                self.check_found(recorder.device.restarted(kept), allowed)

    def check_found(self, device, allowed):
        """Check that a device holds one of some trees, whole, and that a second script goes on from there."""
        host = host_of(device)
        tree = host.tree()
        self.assertIn(tree, allowed)
        check(host.files)
        self.assertEqual(host.run('mkdir /new; echo more > /new/f; sync; cat /new/f').shown(), ('more\n', 0))
        check(host.files)
        self.assertEqual(host_of(device).tree(), host.tree())
        self.assertEqual([row for row in host.tree() if row[0] != 'new'], list(tree))

    def test_each_step_of_a_script(self):
        self.check_script(SCRIPT, random.Random(1), 1)

    def test_other_schedules(self):
        chance = random.Random(2)
        for _ in range(3):
            self.check_script(SCRIPT, chance, 9, [chance.randrange(9) for _ in range(400)])

    def test_groups_that_are_committed_between(self):
        self.check_script(MANY, random.Random(3), 5)

    def test_scripts_by_chance(self):
        for seed in range(30):
            chance = random.Random(seed)
            script = 'mkdir /d; echo apple > /d/a; ' + chance_text(chance) + '; sync; ls -l /d > /z'
            if len(script) <= 4000:
                self.check_script(script, chance, 7, most=3000, entered=ENTERED)

    def test_what_was_synced_is_there(self):
        device = Device(128, 900)
        host = new_host(device)
        host.run('mkdir d; echo a > d/f; sync; echo b > d/f; mkdir e')
        device.arm(0)
        with self.assertRaises(DeviceError):
            host.run('echo c > g; sync')
        self.assertEqual(host_of(device.restarted(())).tree(), (('d', 61, 0, ('folder', (('f', 52, 0, 'a\n'),))),))

    def test_nothing_goes_on_after_a_crash(self):
        device = Device(128, 900)
        host = new_host(device)
        device.arm(3)
        for _ in range(2):
            with self.assertRaises(DeviceError):
                host.run('echo a > f; sync; cat f')
        host = host_of(device.restarted((1,) * 9))
        self.assertEqual(host.run('ls; echo $?').code, 0)


if __name__ == '__main__':
    unittest.main()
