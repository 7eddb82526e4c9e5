"""The main promise: a script writes, ends and leaves what its commands say when they are carried out one after another."""

import random
import unittest

from hoststack.check import check
from hoststack.device import Device
from hoststack.errors import ShellError
from hoststack.host import new_host
from hoststack.names import tree_of
from hoststack.script import parse_script
from tests.plain import ADD, FAULT, TWO, carried_out, chance_script

ENTERED = 'first line\nsecond\n\nfourth  line \nlast'


def fresh_host():
    """Return a host with some files and programs."""
    host = new_host(Device(128, 1200), 100)
    files = host.files
    for path in ('/d', '/bin'):
        files.make_folder(path, mode=63)
    for path, text in (('/d/a', 'apple\nbanana\n'), ('/d/b', '5\n-7\nx\n'), ('/d/c', ''), ('/bin/add', ADD), ('/bin/two', TWO), ('/bin/fault', FAULT)):
        files.write(files.create(path, mode=61), 0, text)
    return host


def chance_text(chance):
    """Return a script by chance that is within the limits."""
    while True:
        text = chance_script(chance, chance.choice((1, 2, 2, 3)))
        try:
            parse_script(text)
        except ShellError:
            assert len(text) > 4000, text
            continue
        return text


class PromiseTest(unittest.TestCase):
    def check_script(self, text, chance, many):
        """Check that a script does the same as one whose commands are carried out one after another."""
        plain = fresh_host()
        wanted = carried_out(plain.files, text, ENTERED)
        tree = tree_of(plain.files)
        for _ in range(many):
            host = fresh_host()
            host.pipe_size = chance.choice((1, 2, 3, 16, 100))
            host.frames = chance.randint(1, 8)
            choices = [chance.randrange(60) for _ in range(chance.choice((0, 200, 3000)))]
            result = host.run(text, choices, ENTERED)
            self.assertEqual((result.shown(), host.tree()), (wanted, tree), text)
            kernel = host.kernel
            self.assertEqual((kernel.processes, host.files.holding, kernel.pager.swapped), ({}, {}, {}), text)
            self.assertEqual([frame for frame in kernel.pager.frames if frame is not None], [])
            check(host.files)

    def test_by_chance(self):
        for seed in range(220):
            chance = random.Random(seed)
            self.check_script(chance_text(chance), chance, 2)

    def test_by_chance_with_many_schedules(self):
        for seed in range(1000, 1010):
            chance = random.Random(seed)
            self.check_script(chance_text(chance), chance, 12)


if __name__ == '__main__':
    unittest.main()
