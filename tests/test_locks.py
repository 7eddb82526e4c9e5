"""Locks: who holds, who waits and for whom, rings that are refused, and the order of asking."""

import itertools
import random
import unittest

from hoststack.errors import ProcessError
from hoststack.locks import Locks


class LocksCase(unittest.TestCase):
    def setUp(self):
        self.locks = Locks()

    def holds(self, who, name, how):
        self.assertIs(self.locks.ask(who, name, how), True)

    def waits(self, who, name, how, *others):
        """Check that somebody has to wait for others."""
        self.assertIs(self.locks.ask(who, name, how), False)
        self.assertEqual(self.locks.waits_for(who), list(others))

    def refused(self, deed, *more):
        before = self.locks.shown()
        with self.assertRaises(ProcessError):
            deed(*more)
        self.assertEqual(self.locks.shown(), before)


class HoldingTest(LocksCase):
    def test_nothing_is_held_at_first(self):
        self.assertEqual(self.locks.shown(), ((), ()))
        self.assertEqual((self.locks.holders_of('a'), self.locks.waits_for(1), self.locks.in_ring(1)), ({}, [], False))
        self.assertEqual((self.locks.ahead(1, 'a'), self.locks.blockers(1, 'a', 'alone')), ([], []))
        self.assertTrue(self.locks.fits(1, 'a', 'alone'))
        self.assertEqual(self.locks.shown(), ((), ()))

    def test_shared(self):
        for who in (3, 1, 2):
            self.holds(who, 'a', 'shared')
        self.assertEqual(self.locks.holders_of('a'), {1: 'shared', 2: 'shared', 3: 'shared'})
        self.waits(4, 'a', 'alone', 1, 2, 3)

    def test_alone(self):
        self.holds(1, 'a', 'alone')
        self.holds(2, 'b', 'alone')
        self.waits(3, 'a', 'alone', 1)
        self.waits(4, 'b', 'shared', 2)
        self.assertEqual(self.locks.shown(), ((('a', ((1, 'alone'),)), ('b', ((2, 'alone'),))), ((3, 'a', 'alone'), (4, 'b', 'shared'))))

    def test_asked_again(self):
        self.holds(1, 'a', 'shared')
        self.holds(1, 'a', 'shared')
        self.holds(1, 'a', 'alone')
        self.assertEqual(self.locks.holders_of('a'), {1: 'alone'})
        self.holds(1, 'a', 'shared')
        self.assertEqual(self.locks.holders_of('a'), {1: 'alone'})

    def test_take(self):
        self.assertIsNone(self.locks.take(1, 'a', 'shared'))
        self.locks.take(2, 'a', 'shared')
        self.locks.take(1, 'a', 'alone')
        self.locks.take(1, 'a', 'shared')
        self.assertEqual(self.locks.holders_of('a'), {1: 'alone', 2: 'shared'})

    def test_fits(self):
        self.locks.take(1, 'a', 'shared')
        self.assertEqual([self.locks.fits(who, 'a', how) for who in (1, 2) for how in ('shared', 'alone')], [True, True, True, False])
        self.locks.take(1, 'a', 'alone')
        self.assertEqual([self.locks.fits(who, 'a', how) for who in (1, 2) for how in ('shared', 'alone')], [True, True, False, False])

    def test_who_waits_has_no_say_in_what_fits(self):
        self.holds(1, 'a', 'shared')
        self.waits(2, 'a', 'alone', 1)
        self.assertTrue(self.locks.fits(3, 'a', 'shared'))

    def test_a_table_of_holders_is_a_copy(self):
        self.holds(1, 'a', 'shared')
        self.locks.holders_of('a').clear()
        self.locks.holders_of('b')[1] = 'alone'
        self.assertEqual(self.locks.shown(), ((('a', ((1, 'shared'),)),), ()))

    def test_shown_is_in_order(self):
        for who, name in (('y', 'b'), ('x', 'b'), ('z', 'a')):
            self.holds(who, name, 'shared')
        self.waits('w', 'b', 'alone', 'x', 'y')
        self.waits('a', 'b', 'alone', 'w', 'x', 'y')
        self.assertEqual(self.locks.shown(), ((('a', (('z', 'shared'),)), ('b', (('x', 'shared'), ('y', 'shared')))),
                                              (('w', 'b', 'alone'), ('a', 'b', 'alone'))))


class WaitingTest(LocksCase):
    def test_who_asked_before_goes_first(self):
        self.holds(1, 'a', 'shared')
        self.waits(2, 'a', 'alone', 1)
        self.waits(3, 'a', 'shared', 2)
        self.waits(4, 'a', 'shared', 2, 3)
        self.assertEqual([self.locks.ahead(who, 'a') for who in (2, 3, 4, 5, 1)], [[], [2], [2, 3], [2, 3, 4], [2, 3, 4]])
        self.assertEqual(self.locks.ahead(4, 'b'), [])
        self.assertEqual(self.locks.blockers(5, 'a', 'alone'), [1, 2, 3, 4])

    def test_who_holds_it_already_does_not_wait_for_them(self):
        self.holds(1, 'a', 'shared')
        self.waits(2, 'a', 'alone', 1)
        self.holds(1, 'a', 'shared')
        self.holds(1, 'a', 'alone')
        self.assertEqual(self.locks.waits_for(2), [1])

    def test_blockers_in_ascending_order(self):
        for who in (9, 4, 7):
            self.holds(who, 'a', 'shared')
        self.waits(5, 'a', 'alone', 4, 7, 9)
        self.waits(1, 'a', 'alone', 4, 5, 7, 9)
        self.assertEqual(self.locks.blockers(8, 'a', 'shared'), [1, 5])
        self.assertEqual(self.locks.blockers(4, 'a', 'shared'), [])
        self.assertEqual(self.locks.blockers(4, 'a', 'alone'), [7, 9])

    def test_who_waits_may_not_ask(self):
        self.holds(1, 'a', 'alone')
        self.waits(2, 'a', 'shared', 1)
        for name, how in (('a', 'shared'), ('a', 'alone'), ('b', 'shared')):
            self.refused(self.locks.ask, 2, name, how)

    def test_other_ways(self):
        for how in ('', 'both', 'Shared', 'ALONE'):
            self.refused(self.locks.ask, 1, 'a', how)

    def test_names_are_apart(self):
        self.holds(1, 'a', 'alone')
        self.holds(1, 'b', 'alone')
        self.waits(2, 'a', 'alone', 1)
        self.waits(3, 'b', 'alone', 1)
        self.assertEqual(self.locks.blockers(4, 'c', 'alone'), [])
        self.assertEqual(self.locks.release(1, 'b'), [3])


class RingTest(LocksCase):
    def test_of_two(self):
        self.holds(1, 'a', 'alone')
        self.holds(2, 'b', 'alone')
        self.waits(1, 'b', 'alone', 2)
        self.refused(self.locks.ask, 2, 'a', 'alone')
        self.refused(self.locks.ask, 2, 'a', 'shared')
        self.assertFalse(self.locks.in_ring(1))
        self.assertEqual(self.locks.release(2, 'b'), [1])

    def test_of_two_who_share(self):
        self.holds(1, 'a', 'shared')
        self.holds(2, 'a', 'shared')
        self.waits(1, 'a', 'alone', 2)
        self.refused(self.locks.ask, 2, 'a', 'alone')
        self.assertEqual(self.locks.release(2, 'a'), [1])
        self.assertEqual(self.locks.holders_of('a'), {1: 'alone'})

    def test_of_three(self):
        for who, name in ((1, 'a'), (2, 'b'), (3, 'c')):
            self.holds(who, name, 'alone')
        self.waits(1, 'b', 'shared', 2)
        self.waits(2, 'c', 'shared', 3)
        self.refused(self.locks.ask, 3, 'a', 'shared')
        self.waits(4, 'a', 'shared', 1)
        self.assertFalse(self.locks.in_ring(4))

    def test_by_those_who_asked_before(self):
        self.holds(1, 'a', 'shared')
        self.holds(2, 'b', 'alone')
        self.waits(2, 'a', 'alone', 1)
        self.waits(3, 'a', 'shared', 2)
        self.refused(self.locks.ask, 1, 'b', 'shared')
        self.locks.leave(3)
        self.holds(3, 'c', 'alone')
        self.waits(3, 'a', 'shared', 2)
        # 2 waits for 1, and 3 for 2, so 1 may not wait for 3.
        self.refused(self.locks.ask, 1, 'c', 'shared')

    def test_a_ring_elsewhere(self):
        self.locks.take(1, 'a', 'alone')
        self.locks.take(2, 'b', 'alone')
        self.locks.queue.extend([(1, 'b', 'alone'), (2, 'a', 'alone')])
        self.assertEqual([self.locks.in_ring(who) for who in (1, 2, 3)], [True, True, False])
        self.waits(3, 'a', 'shared', 1, 2)


class ReleaseTest(LocksCase):
    def test_in_the_order_of_asking(self):
        self.holds(1, 'a', 'alone')
        for who, how in ((5, 'shared'), (2, 'shared'), (4, 'alone'), (3, 'shared')):
            self.assertFalse(self.locks.ask(who, 'a', how))
        self.assertEqual(self.locks.release(1, 'a'), [5, 2])
        self.assertEqual(self.locks.release(5, 'a'), [])
        self.assertEqual(self.locks.release(2, 'a'), [4])
        self.assertEqual(self.locks.release(4, 'a'), [3])
        self.assertEqual(self.locks.release(3, 'a'), [])
        self.assertEqual(self.locks.shown(), ((), ()))

    def test_what_is_not_held(self):
        self.holds(1, 'a', 'shared')
        self.waits(2, 'a', 'alone', 1)
        for who, name in ((2, 'a'), (3, 'a'), (1, 'b'), (4, 'c')):
            self.refused(self.locks.release, who, name)

    def test_who_holds_it_already_comes_first(self):
        self.holds(1, 'a', 'shared')
        self.holds(2, 'a', 'shared')
        self.waits(3, 'a', 'alone', 1, 2)
        self.waits(2, 'a', 'alone', 1)
        self.assertEqual(self.locks.release(1, 'a'), [2])
        self.assertEqual(self.locks.shown(), ((('a', ((2, 'alone'),)),), ((3, 'a', 'alone'),)))

    def test_leave(self):
        self.holds(1, 'a', 'alone')
        self.holds(1, 'b', 'alone')
        self.holds(2, 'c', 'shared')
        self.waits(3, 'b', 'shared', 1)
        self.waits(4, 'a', 'shared', 1)
        self.waits(5, 'a', 'alone', 1, 4)
        self.waits(6, 'a', 'shared', 1, 4, 5)
        self.assertEqual(self.locks.leave(1), [3, 4])
        self.assertEqual(self.locks.leave(5), [6])
        self.assertEqual(self.locks.leave(7), [])
        self.assertEqual(self.locks.shown(), ((('a', ((4, 'shared'), (6, 'shared'))), ('b', ((3, 'shared'),)), ('c', ((2, 'shared'),))), ()))

    def test_who_leaves_waits_no_more(self):
        self.holds(1, 'a', 'shared')
        self.waits(2, 'a', 'alone', 1)
        self.waits(3, 'a', 'shared', 2)
        self.assertEqual(self.locks.leave(2), [3])
        self.assertEqual(self.locks.waits_for(2), [])
        self.holds(2, 'b', 'alone')


class ChanceTest(unittest.TestCase):
    """Deeds by chance, and what must hold after each."""

    def test_what_must_hold(self):
        for seed in range(150):
            chance = random.Random(seed)
            locks = Locks()
            for _ in range(60):
                self.do(chance, locks)
                holders, queue = locks.shown()
                for name, rows in holders:
                    self.assertTrue(len(rows) == 1 or all(how == 'shared' for who, how in rows))
                    self.assertGreater(len(rows), 0)
                for who, name, how in queue:
                    self.assertNotEqual(locks.blockers(who, name, how), [])
                    self.assertFalse(locks.in_ring(who))
                self.assertEqual(len({who for who, name, how in queue}), len(queue))

    def do(self, chance, locks):
        who, name, how = chance.randint(1, 5), chance.choice('abc'), chance.choice(('shared', 'alone'))
        before = locks.shown()
        waiting = [row[0] for row in before[1]]
        deed = chance.random()
        try:
            if deed < 0.7:
                found = locks.ask(who, name, how)
                self.assertEqual(who in [row[0] for row in locks.shown()[1]], not found)
            else:
                found = locks.release(who, name) if deed < 0.95 else locks.leave(who)
                after = [row[0] for row in locks.shown()[1]]
                self.assertEqual(found, [one for one in waiting if one not in after and (one != who or deed < 0.95)])
        except ProcessError:
            self.assertEqual(locks.shown(), before)
            self.assertTrue(who in waiting or deed < 0.7 or who not in locks.holders_of(name))

    def test_a_ring_is_what_makes_a_refusal(self):
        for rows in itertools.product('abc', repeat=3):
            locks = Locks()
            for who, name in enumerate('abc'):
                locks.ask(who, name, 'alone')
            waits = {}
            for who, name in enumerate(rows):
                other = 'abc'.index(name)
                at, ring = other, False
                while at in waits and not ring:
                    at = waits[at]
                    ring = at == who
                ring = (ring or at == who) and other != who
                if ring:
                    with self.assertRaises(ProcessError):
                        locks.ask(who, name, 'alone')
                else:
                    self.assertEqual(locks.ask(who, name, 'alone'), other == who)
                    if other != who:
                        waits[who] = other


if __name__ == '__main__':
    unittest.main()
