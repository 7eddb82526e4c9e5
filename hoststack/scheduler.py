"""Scheduling: policies that choose which process goes on next, and what they have given each."""

from hoststack.errors import ProcessError

POLICIES = ('turns', 'lowest', 'fair', 'chances')
MOST_WEIGHT = 100
HUNDREDTHS = 100
SEED_FACTOR = 1103515245
SEED_STEP = 12345
SEED_TOP = 2147483648
SEED_REST = 65536


class Scheduler:
    """A policy, how many steps a turn has, weights of processes, and what each process has got."""

    def __init__(self, policy, quantum=1, seed=1):
        if policy not in POLICIES or quantum < 1:
            raise ProcessError('there is no such policy, or a turn has no step')
        self.policy = policy
        self.quantum = quantum
        self.seed = seed
        self.weights = {}
        self.given = {}
        # The process whose turn it is, and how many steps of the turn are left.
        self.last = 0
        self.left = 0

    def set_weight(self, number, weight):
        """Give a process a weight from 1 to 100; raise ProcessError for another one."""
        if not 1 <= weight <= MOST_WEIGHT:
            raise ProcessError('a weight is from 1 to 100')
        self.weights[number] = weight

    def weight(self, number):
        """Return a process's weight, 1 unless it was given another one."""
        return self.weights.get(number, 1)

    def choose(self, ready):
        """Return the number of the process that goes on, one of the ready ones; raise ProcessError for none."""
        if len(ready) == 0:
            raise ProcessError('no process is ready')
        number = self.chosen(ready)
        self.given[number] = self.given.get(number, 0) + 1
        return number

    def chosen(self, ready):
        """Return the number of the process that the policy chooses."""
        if self.policy == 'turns':
            return self.by_turns(ready)
        if self.policy == 'fair':
            return min([(self.share(number), number) for number in ready])[1]
        if self.policy == 'chances':
            return self.by_chance(ready)
        return min(ready)

    def by_turns(self, ready):
        """Return the process whose turn it is; the next greater number, or the least one, begins another turn."""
        if self.left == 0 or self.last not in ready:
            greater = [number for number in ready if number > self.last]
            self.last = min(greater) if greater != [] else min(ready)
            self.left = self.quantum
        self.left = self.left - 1
        return self.last

    def share(self, number):
        """Return a process's steps by its weight, in hundredths rounded down."""
        return self.given.get(number, 0) * HUNDREDTHS // self.weight(number)

    def by_chance(self, ready):
        """Return the process to which the next seed leads along the ready ones, by their weights."""
        self.seed = (SEED_FACTOR * self.seed + SEED_STEP) % SEED_TOP
        along = [number for number in ready for _ in range(self.weight(number))]
        return along[self.seed // SEED_REST % len(along)]


def run_scheduled(kernel, scheduler, most=100000):
    """Let a kernel's processes go on as a scheduler chooses until none is alive; return the processes chosen, in order.

    Raise ProcessError if none is ready, or after so many steps.
    """
    found = []
    while kernel.alive() != []:
        if len(found) >= most:
            raise ProcessError('there were too many steps')
        number = scheduler.choose(kernel.ready())
        kernel.step(number)
        found.append(number)
    return found


def longest_wait(order, number):
    """Return the greatest number of steps of others between two steps of a process, before its first one too."""
    longest = 0
    waited = 0
    for other in order:
        if other == number:
            longest = max(longest, waited)
            waited = 0
        else:
            waited = waited + 1
    return longest
