"""Schedulers: which process goes on by each policy, what is refused, and waits."""

import unittest

from hoststack.errors import ProcessError
from hoststack.kernel import Kernel
from hoststack.scheduler import Scheduler, longest_wait, run_scheduled
from hoststack.script import parse_script
from hoststack.shell import ShellProgram
from tests.helpers import HostCase, new_files

POLICIES = ('turns', 'lowest', 'fair', 'chances')


class Counting:
    """A program that goes on for so many steps and ends with a code."""

    def __init__(self, steps, code=0):
        self.left = steps
        self.code = code

    def step(self, calls):
        self.left -= 1
        return self.code if self.left == 0 else None

    def leave(self):
        pass


def chosen(scheduler, *rows):
    """Return the numbers that a scheduler chooses of rows of ready ones."""
    return [scheduler.choose(list(row)) for row in rows]


class TurnsTest(unittest.TestCase):
    def test_one_step_a_turn(self):
        self.assertEqual(chosen(Scheduler('turns'), *[(1, 2, 3)] * 7), [1, 2, 3, 1, 2, 3, 1])
        self.assertEqual(chosen(Scheduler('turns'), *[(4, 7)] * 3), [4, 7, 4])
        self.assertEqual(chosen(Scheduler('turns'), *[(5,)] * 3), [5, 5, 5])

    def test_several_steps_a_turn(self):
        self.assertEqual(chosen(Scheduler('turns', 3), *[(1, 2)] * 8), [1, 1, 1, 2, 2, 2, 1, 1])
        self.assertEqual(chosen(Scheduler('turns', 2), *[(3,)] * 5), [3] * 5)

    def test_who_is_not_ready_any_more_loses_the_turn(self):
        self.assertEqual(chosen(Scheduler('turns', 3), (1, 2, 3), (2, 3), (1, 2, 3), (1, 2, 3), (1, 2, 3)), [1, 2, 2, 2, 3])
        self.assertEqual(chosen(Scheduler('turns', 3), (1, 3), (1, 2), (2,), (1, 2), (1, 2), (1, 2)), [1, 1, 2, 2, 2, 1])
        self.assertEqual(chosen(Scheduler('turns', 2), (2, 3), (3,), (1, 2), (1, 2), (1, 2)), [2, 3, 1, 1, 2])

    def test_the_next_greater_number(self):
        self.assertEqual(chosen(Scheduler('turns'), (2, 5), (1, 4, 6), (1, 4), (1, 4), (2, 3), (1, 3)), [2, 4, 1, 4, 2, 3])

    def test_weights_and_seeds_mean_nothing(self):
        scheduler = Scheduler('turns', seed=99)
        scheduler.set_weight(2, 100)
        self.assertEqual(chosen(scheduler, *[(1, 2, 3)] * 4), [1, 2, 3, 1])


class LowestTest(unittest.TestCase):
    def test_lowest(self):
        scheduler = Scheduler('lowest', 5)
        scheduler.set_weight(2, 100)
        self.assertEqual(chosen(scheduler, (1, 2), (1, 2), (2, 3), (3,), (1, 3)), [1, 1, 2, 3, 1])


class FairTest(unittest.TestCase):
    def test_without_weights(self):
        self.assertEqual(chosen(Scheduler('fair'), *[(1, 2, 3)] * 7), [1, 2, 3, 1, 2, 3, 1])

    def test_who_was_away_comes_first(self):
        self.assertEqual(chosen(Scheduler('fair'), (1,), (1,), (1, 2), (1, 2), (1, 2), (1, 2)), [1, 1, 2, 2, 1, 2])

    def test_weights(self):
        scheduler = Scheduler('fair')
        scheduler.set_weight(2, 3)
        # By hundredths: 0 0, 100 0, 100 33, 100 66, 100 100, 200 100 ..
        self.assertEqual(chosen(scheduler, *[(1, 2)] * 9), [1, 2, 2, 2, 1, 2, 2, 2, 1])

    def test_hundredths_are_rounded_down(self):
        scheduler = Scheduler('fair')
        scheduler.set_weight(1, 100)
        scheduler.set_weight(2, 99)
        # 100 // 99 is 1, as 100 // 100 is: among equals the least number goes first.
        self.assertEqual(chosen(scheduler, *[(1, 2)] * 5), [1, 2, 1, 2, 1])
        scheduler = Scheduler('fair')
        scheduler.set_weight(1, 7)
        scheduler.set_weight(2, 6)
        # 14 16, 28 33, 42 50, 57 66, 71 83, 85 100, 100 100
        self.assertEqual(chosen(scheduler, *[(1, 2)] * 14), [1, 2, 1, 2, 1, 2, 1, 2, 1, 2, 1, 2, 1, 1])

    def test_equal_hundredths_of_other_weights(self):
        scheduler = Scheduler('fair')
        scheduler.set_weight(1, 11)
        scheduler.set_weight(2, 10)
        # After ten steps of 1 and nine of 2 both have 90, and then 1 has 100 and 2 has 90.
        self.assertEqual(chosen(scheduler, *[(1, 2)] * 22), [1, 2] * 9 + [1, 1, 2, 1])

    def test_a_weight_may_change(self):
        scheduler = Scheduler('fair')
        self.assertEqual(chosen(scheduler, *[(1, 2)] * 4), [1, 2, 1, 2])
        scheduler.set_weight(2, 100)
        self.assertEqual(chosen(scheduler, *[(1, 2)] * 3), [2, 2, 2])


class ChancesTest(unittest.TestCase):
    def reckoned(self, seed, rows, weights):
        found = []
        for row in rows:
            seed = (1103515245 * seed + 12345) % 2147483648
            along = [number for number in row for _ in range(weights.get(number, 1))]
            found.append(along[seed // 65536 % len(along)])
        return found

    def test_by_hand(self):
        # The first seeds after 1 are 1103527590, 377401575 and 662824084: by 65536 they are 16838, 5758 and 10113.
        self.assertEqual(chosen(Scheduler('chances'), *[(1, 2, 3)] * 3), [3, 2, 1])
        self.assertEqual(chosen(Scheduler('chances'), *[(1, 2)] * 3), [1, 1, 2])
        scheduler = Scheduler('chances')
        scheduler.set_weight(1, 4)
        # By 5 they are 3, 3 and 3.
        self.assertEqual(chosen(scheduler, *[(1, 2)] * 3), [1, 1, 1])
        scheduler = Scheduler('chances')
        scheduler.set_weight(1, 3)
        self.assertEqual(chosen(scheduler, (1, 2), (1, 2, 3), (1, 2)), [1, 2, 1])

    def test_seeds_and_weights(self):
        for seed in (0, 1, 2, 77, 2147483647):
            rows = [(1, 2, 3), (2, 3), (4,), (1, 2, 4, 5)] * 10
            weights = {2: 5, 4: 100, 5: 3}
            scheduler = Scheduler('chances', 3, seed)
            for number, weight in weights.items():
                scheduler.set_weight(number, weight)
            self.assertEqual(chosen(scheduler, *rows), self.reckoned(seed, rows, weights))


class RefusedTest(unittest.TestCase):
    def test_policies_and_turns(self):
        for policy in ('', 'turn', 'Fair', 'other', 'highest'):
            with self.assertRaises(ProcessError):
                Scheduler(policy)
        for quantum in (0, -1):
            for policy in POLICIES:
                with self.assertRaises(ProcessError):
                    Scheduler(policy, quantum)

    def test_weights(self):
        scheduler = Scheduler('fair')
        self.assertEqual(scheduler.weight(5), 1)
        for weight in (1, 100, 50):
            self.assertIsNone(scheduler.set_weight(5, weight))
            self.assertEqual(scheduler.weight(5), weight)
        for weight in (0, -1, 101):
            with self.assertRaises(ProcessError):
                scheduler.set_weight(5, weight)
        self.assertEqual((scheduler.weight(5), scheduler.weight(6)), (50, 1))

    def test_nobody_is_ready(self):
        for policy in POLICIES:
            scheduler, other = Scheduler(policy, 2), Scheduler(policy, 2)
            for one in (scheduler, other):
                chosen(one, (1, 2))
            with self.assertRaises(ProcessError):
                scheduler.choose([])
            self.assertEqual(chosen(scheduler, *[(1, 2)] * 5), chosen(other, *[(1, 2)] * 5))


class WaitTest(unittest.TestCase):
    def test_longest_wait(self):
        rows = {(): 0, (1,): 0, (2, 2): 0, (1, 2, 2, 1): 2, (2, 2, 2, 1, 2, 1): 3, (1, 1, 1): 0, (1, 2, 3, 1, 2, 3, 4, 1, 2, 2, 2, 2): 3,
                (2, 1, 2, 2, 1): 2, (1, 2, 2, 2): 0}
        for order, longest in rows.items():
            self.assertEqual(longest_wait(list(order), 1), longest, order)


class RunTest(unittest.TestCase):
    def run_by(self, scheduler, *many, **more):
        kernel = Kernel(new_files())
        for steps in many:
            kernel.start(Counting(steps), kernel.console_table())
        order = run_scheduled(kernel, scheduler, **more)
        self.assertEqual((kernel.processes, kernel.steps), ({}, len(order)))
        return order

    def test_orders(self):
        self.assertEqual(self.run_by(Scheduler('turns'), 2, 3, 1), [1, 2, 3, 1, 2, 2])
        self.assertEqual(self.run_by(Scheduler('turns', 2), 3, 3), [1, 1, 2, 2, 1, 2])
        self.assertEqual(self.run_by(Scheduler('lowest'), 2, 1, 2), [1, 1, 2, 3, 3])
        self.assertEqual(self.run_by(Scheduler('fair'), 3, 1), [1, 2, 1, 1])
        self.assertEqual(self.run_by(Scheduler('chances'), 1, 1), [1, 2])
        scheduler = Scheduler('fair')
        scheduler.set_weight(2, 2)
        self.assertEqual(self.run_by(scheduler, 2, 4), [1, 2, 2, 1, 2, 2])
        self.assertEqual(self.run_by(Scheduler('turns')), [])
        self.assertIsInstance(self.run_by(Scheduler('turns'), 1), list)

    def test_too_many_steps(self):
        for policy in POLICIES:
            self.assertEqual(len(self.run_by(Scheduler(policy), 3, 3, most=6)), 6)
            kernel = Kernel(new_files())
            for _ in range(2):
                kernel.start(Counting(3), kernel.console_table())
            with self.assertRaises(ProcessError):
                run_scheduled(kernel, Scheduler(policy), 5)
            self.assertEqual(kernel.steps, 5)
        with self.assertRaises(ProcessError):
            self.run_by(Scheduler('turns'), 1, most=0)

    def test_nobody_can_go_on(self):
        kernel = Kernel(new_files())
        first = kernel.start(Counting(9), kernel.console_table())
        kernel.process(first).waits = ('children', 0)
        for policy in POLICIES:
            with self.assertRaises(ProcessError):
                run_scheduled(kernel, Scheduler(policy))
        self.assertEqual(kernel.steps, 0)


class ScriptTest(HostCase):
    SCRIPT = ('f() { seq 1 $1; }; f 12 | grep 1 | { while read x; do echo "$x $((x * x))"; done; } > /o; (cd /; sort -r o) | head -3; '
              'x=$(f 3); echo $x')
    TEXT = '12 144\n11 121\n10 100\n1 2 3\n'

    def test_what_is_written_is_the_same_by_all(self):
        for policy in POLICIES:
            for quantum in (1, 2, 7, 100):
                for seed in (1, 5, 12345):
                    for size in (1, 16):
                        kernel = Kernel(self.files, 2, size)
                        scheduler = Scheduler(policy, quantum, seed)
                        scheduler.set_weight(2, 100)
                        scheduler.set_weight(3, 17)
                        kernel.start(ShellProgram(parse_script(self.SCRIPT)), kernel.console_table())
                        order = run_scheduled(kernel, scheduler)
                        self.assertEqual((kernel.console.written, kernel.processes, self.files.holding), (self.TEXT, {}, {}))
                        self.assertEqual((order[0], len(order)), (1, kernel.steps))

    def test_turns_of_two_scripts(self):
        kernel = Kernel(self.files)
        for _ in range(2):
            kernel.start(ShellProgram(parse_script(':; :')), kernel.console_table())
        order = run_scheduled(kernel, Scheduler('turns', 2))
        self.assertEqual(order, [1, 1, 2, 2] * (len(order) // 4) + order[len(order) // 4 * 4:])
        self.assertEqual(order.count(1), order.count(2))
        self.assertEqual((longest_wait(order, 1), longest_wait(order, 2)), (2, 2))


if __name__ == '__main__':
    unittest.main()
