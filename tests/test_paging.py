"""Memories in pages: against plain lists, with forks, growth and releases, in few frames and a small swap space."""

import random
import unittest

from hoststack.errors import SpaceFault
from hoststack.paging import Frame, Pager, Space


def counts(pager):
    return (pager.faults, pager.evictions, pager.copies)


def state(pager, *spaces):
    frames = [None if frame is None else (list(frame.words), list(frame.owners)) for frame in pager.frames]
    return (frames, dict(pager.swapped), pager.hand, counts(pager), [list(space.table) for space in spaces])


def agrees(pager, spaces):
    """Return True if frames, owners, swapped pages and tables tell the same."""
    for place, frame in enumerate(pager.frames):
        if frame is not None:
            owners = [(space.number, page) for space in spaces for page in range(len(space.table))
                      if space.table[page] == place]
            if sorted(frame.owners) != sorted(owners) or owners == []:
                return False
    there = [(space.number, page) for space in spaces for page in range(len(space.table)) if space.table[page] is None]
    return len(pager.swapped) <= pager.slots and all(key in there for key in pager.swapped)


class FieldsTest(unittest.TestCase):
    def test_frames(self):
        words = [1, 2, 3]
        frame = Frame(words)
        self.assertEqual((frame.words, frame.owners), ([1, 2, 3], []))
        self.assertIsInstance(frame.words, list)

    def test_pagers(self):
        pager = Pager(3)
        self.assertEqual((pager.frames, pager.swapped, counts(pager)), ([None] * 3, {}, (0, 0, 0)))

    def test_no_frame(self):
        for count in (0, -1, -100):
            with self.assertRaises(SpaceFault):
                Pager(count)

    def test_spaces(self):
        pager = Pager(3)
        one, other = Space(pager, 2), Space(pager, 0)
        self.assertIs(one.pager, pager)
        self.assertNotEqual(one.number, other.number)
        self.assertEqual((one.word_count(), other.word_count()), (16, 0))
        self.assertEqual((pager.frames, pager.swapped), ([None] * 3, {}))

    def test_owners_and_words(self):
        pager = Pager(2)
        space = Space(pager, 2)
        space.store_word(9, 5)
        self.assertEqual((pager.frames[0].words, pager.frames[0].owners), ([0, 5] + [0] * 6, [(space.number, 1)]))
        self.assertIsNone(pager.frames[1])

    def test_pages(self):
        pager = Pager(1)
        for pages in (-1, 65, 1000):
            with self.assertRaises(SpaceFault):
                Space(pager, pages)
        self.assertEqual(Space(pager, 64).word_count(), 512)


class WordsTest(unittest.TestCase):
    def test_addresses(self):
        for pages in (0, 1, 64):
            space = Space(Pager(2), pages)
            for address in (-1, -8, pages * 8, pages * 8 + 1, 10 ** 6):
                with self.assertRaises(SpaceFault):
                    space.load_word(address)
                with self.assertRaises(SpaceFault):
                    space.store_word(address, 1)
            self.assertEqual(space.all_words(), (0,) * (8 * pages))

    def test_each_word(self):
        for frames in (1, 2, 7, 64, 100):
            for pages in (1, 2, 64):
                space = Space(Pager(frames), pages)
                for address in range(8 * pages):
                    space.store_word(address, address * 3 - 5)
                self.assertEqual([space.load_word(address) for address in range(8 * pages)],
                                 [address * 3 - 5 for address in range(8 * pages)])
                self.assertEqual(space.all_words(), tuple(address * 3 - 5 for address in range(8 * pages)))

    def test_growth(self):
        space = Space(Pager(1), 1)
        space.store_word(7, 9)
        space.grow(0)
        space.grow(2)
        self.assertEqual(space.all_words(), (0,) * 7 + (9,) + (0,) * 16)
        for pages in (-1, -3, 62, 1000):
            with self.assertRaises(SpaceFault):
                space.grow(pages)
        self.assertEqual(space.word_count(), 24)
        space.grow(61)
        self.assertEqual(space.word_count(), 512)
        with self.assertRaises(SpaceFault):
            space.grow(1)

    def test_release(self):
        for frames in (1, 3):
            pager = Pager(frames)
            one, other = Space(pager, 4), Space(pager, 2)
            for space in (one, other):
                for address in range(space.word_count()):
                    space.store_word(address, address)
            third = one.forked()
            pager.release(one)
            self.assertEqual(third.all_words(), tuple(range(32)))
            self.assertEqual(one.word_count(), 0)
            with self.assertRaises(SpaceFault):
                one.load_word(0)
            pager.release(one)
            pager.release(third)
            self.assertEqual(other.all_words(), tuple(range(16)))
            pager.release(other)
            self.assertEqual((pager.frames, pager.swapped), ([None] * frames, {}))


class CountTest(unittest.TestCase):
    def test_by_hand(self):
        pager = Pager(2)
        space = Space(pager, 3)
        rows = (
            (0, (1, 0, 0), [0, None, None]), (3, (1, 0, 0), [0, None, None]), (8, (2, 0, 0), [0, 1, None]),
            # All were used lately: the hand goes round once, and the frame at which it was goes.
            (16, (3, 1, 0), [None, 1, 0]), (8, (3, 1, 0), [None, 1, 0]), (0, (4, 2, 0), [1, None, 0]),
            # Page 2 was not used since the hand passed it.
            (8, (5, 3, 0), [1, 0, None]), (0, (5, 3, 0), [1, 0, None]), (16, (6, 4, 0), [None, 0, 1]),
        )
        for address, told, table in rows:
            space.load_word(address)
            self.assertEqual((counts(pager), space.table), (told, table), address)

    def test_three_frames_by_hand(self):
        pager = Pager(3)
        space = Space(pager, 8)
        # The page that is used, and the pages in the three frames behind that.
        rows = ((0, (0,)), (1, (0, 1)), (2, (0, 1, 2)), (3, (3, 1, 2)), (2, (3, 1, 2)), (4, (3, 4, 2)), (5, (3, 4, 5)),
                (3, (3, 4, 5)), (6, (3, 6, 5)), (7, (7, 6, 5)), (6, (7, 6, 5)), (0, (7, 6, 0)))
        for page, pages in rows:
            space.load_word(8 * page)
            self.assertEqual(tuple(frame.owners[0][1] for frame in pager.frames if frame is not None), pages, page)
        self.assertEqual(counts(pager), (9, 6, 0))

    def test_one_frame(self):
        pager = Pager(1)
        space = Space(pager, 2)
        for place, address in enumerate((0, 8, 0, 8)):
            space.load_word(address)
            space.load_word(address + 1)
            self.assertEqual(counts(pager), (place + 1, place, 0))

    def test_a_copy_is_no_fault(self):
        pager = Pager(4)
        one = Space(pager, 1)
        one.store_word(0, 1)
        other = one.forked()
        self.assertEqual(counts(pager), (1, 0, 0))
        self.assertEqual(sorted(pager.frames[0].owners), [(one.number, 0), (other.number, 0)])
        self.assertEqual((one.load_word(0), other.load_word(0), counts(pager)), (1, 1, (1, 0, 0)))
        other.store_word(0, 2)
        self.assertEqual((one.load_word(0), other.load_word(0), counts(pager)), (1, 2, (1, 0, 1)))
        one.store_word(0, 3)
        other.store_word(0, 4)
        self.assertEqual((one.all_words()[0], other.all_words()[0], counts(pager)), (3, 4, (1, 0, 1)))

    def test_a_released_memory_leaves_the_frame_to_the_other(self):
        pager = Pager(4)
        one = Space(pager, 1)
        one.store_word(0, 1)
        other = one.forked()
        pager.release(one)
        other.store_word(0, 2)
        self.assertEqual((other.load_word(0), counts(pager)), (2, (1, 0, 0)))

    def test_a_copy_in_one_frame(self):
        pager = Pager(1)
        one = Space(pager, 1)
        one.store_word(0, 1)
        other = one.forked()
        other.store_word(0, 2)
        self.assertEqual(counts(pager), (1, 1, 1))
        self.assertEqual(pager.swapped, {(one.number, 0): (1,) + (0,) * 7})
        self.assertEqual((one.load_word(0), other.load_word(0)), (1, 2))
        self.assertEqual(counts(pager), (3, 3, 1))

    def test_what_is_not_done_is_not_counted(self):
        pager = Pager(1, 0)
        space = Space(pager, 2)
        space.store_word(0, 1)
        for deed in (lambda: space.load_word(8), lambda: space.store_word(8, 1), lambda: space.load_word(16)):
            with self.assertRaises(SpaceFault):
                deed()
        self.assertEqual((counts(pager), space.load_word(0)), ((1, 0, 0), 1))


class ForkTest(unittest.TestCase):
    def test_before_and_after_each_writes(self):
        for frames in (1, 2, 5):
            for first in (0, 1):
                pager = Pager(frames)
                one = Space(pager, 2)
                one.store_word(0, 1)
                one.store_word(8, 2)
                pair = (one, one.forked())
                pair[first].store_word(0, 5)
                self.assertEqual(pair[first].load_word(0), 5)
                self.assertEqual(pair[1 - first].load_word(0), 1)
                pair[1 - first].store_word(0, 6)
                third = pair[first].forked()
                third.store_word(8, 7)
                self.assertEqual([space.load_word(0) for space in (*pair, third)], [5, 6, 5] if first == 0 else [6, 5, 5])
                self.assertEqual([space.load_word(8) for space in (*pair, third)], [2, 2, 7])
                self.assertTrue(agrees(pager, (*pair, third)))

    def test_one_frame_for_many(self):
        pager = Pager(1)
        spaces = [Space(pager, 1)]
        for number in range(20):
            spaces[-1].store_word(0, number)
            spaces.append(spaces[-1].forked())
        self.assertEqual([space.load_word(0) for space in spaces], list(range(20)) + [19])

    def test_pages_that_were_never_used(self):
        pager = Pager(1)
        one = Space(pager, 64)
        other = one.forked()
        self.assertEqual((pager.frames, pager.swapped), ([None], {}))
        one.store_word(0, 1)
        self.assertEqual(other.load_word(0), 0)

    def test_forks_of_released_frames(self):
        pager = Pager(3)
        one = Space(pager, 1)
        self.assertEqual(one.forked().forked().all_words(), (0,) * 8)


class SwapTest(unittest.TestCase):
    def refused(self, pager, spaces, deed):
        before = state(pager, *spaces)
        with self.assertRaises(SpaceFault):
            deed()
        self.assertEqual(state(pager, *spaces), before)
        self.assertTrue(agrees(pager, spaces))

    def test_a_small_swap_space(self):
        pager = Pager(2, 2)
        space = Space(pager, 6)
        for page in range(4):
            space.store_word(8 * page, page + 1)
        self.assertEqual(len(pager.swapped), 2)
        self.refused(pager, [space], lambda: space.load_word(32))
        self.refused(pager, [space], lambda: space.store_word(40, 1))
        with self.assertRaises(SpaceFault):
            space.all_words()
        # A page may come back in the place of the one that goes.
        for _ in range(3):
            self.assertEqual([space.load_word(8 * page) for page in range(4)], [1, 2, 3, 4])
        self.refused(pager, [space], lambda: space.load_word(32))

    def test_forks_use_it_up(self):
        pager = Pager(1, 3)
        space = Space(pager, 3)
        for page in range(3):
            space.store_word(8 * page, page)
        self.refused(pager, [space], space.forked)
        pager = Pager(1, 4)
        space = Space(pager, 3)
        for page in range(3):
            space.store_word(8 * page, page)
        other = space.forked()
        self.assertEqual(len(pager.swapped), 4)
        self.refused(pager, [space, other], other.forked)
        # The frame of the third page has two owners, for which there is no room.
        self.refused(pager, [space, other], lambda: space.load_word(0))
        pager.release(space)
        self.assertEqual([other.load_word(8 * page) for page in range(3)], [0, 1, 2])

    def test_copies_use_it_up(self):
        pager = Pager(1, 0)
        one = Space(pager, 1)
        one.store_word(0, 1)
        other = one.forked()
        self.refused(pager, [one, other], lambda: other.store_word(0, 2))
        self.assertEqual((one.load_word(0), other.load_word(0)), (1, 1))
        pager.release(one)
        other.store_word(0, 2)
        self.assertEqual(other.load_word(0), 2)

    def test_a_thousand_pages(self):
        pager = Pager(1)
        spaces = [Space(pager, 64) for _ in range(16)]
        many = 0
        with self.assertRaises(SpaceFault):
            for space in spaces:
                for page in range(64):
                    space.store_word(8 * page, 1)
                    many = many + 1
        self.assertEqual((many, len(pager.swapped)), (1001, 1000))


class ChanceTest(unittest.TestCase):
    def deed(self, chance, pager, rows):
        """Do something with a memory and with a plain list of its words."""
        space, words = chance.choice(rows)
        word = chance.randint(0, 100)
        kind = chance.random()
        if words and kind < 0.4:
            address = chance.randrange(len(words))
            space.store_word(address, word)
            words[address] = word
        elif words and kind < 0.75:
            address = chance.randrange(len(words))
            self.assertEqual(space.load_word(address), words[address])
        elif kind < 0.85 and len(rows) < 8:
            rows.append((space.forked(), list(words)))
        elif kind < 0.95:
            pages = chance.randint(0, 3)
            space.grow(pages)
            words.extend([0] * 8 * pages)
        elif len(rows) > 1:
            pager.release(space)
            rows.remove((space, words))

    def test_against_lists(self):
        for seed in range(60):
            chance = random.Random(seed)
            frames = chance.choice((1, 2, 3, 8, 40))
            pager = Pager(frames)
            rows = [(Space(pager, pages), [0] * 8 * pages) for pages in (0, 1, 3)]
            for _ in range(300):
                try:
                    self.deed(chance, pager, rows)
                except SpaceFault:
                    self.assertTrue(any(len(words) > 488 for space, words in rows))
                self.assertTrue(agrees(pager, [space for space, words in rows]))
            for space, words in rows:
                self.assertEqual(space.all_words(), tuple(words))
                pager.release(space)
            self.assertEqual((pager.frames, pager.swapped), ([None] * frames, {}))

    def test_faults_change_nothing(self):
        faults = 0
        for seed in range(60):
            chance = random.Random(seed)
            pager = Pager(chance.randint(1, 3), chance.randint(0, 5))
            rows = [(Space(pager, pages), [0] * 8 * pages) for pages in (1, 3)]
            for _ in range(200):
                spaces = [space for space, words in rows]
                before = state(pager, *spaces)
                try:
                    self.deed(chance, pager, rows)
                except SpaceFault:
                    self.assertEqual(state(pager, *spaces), before)
                    faults = faults + 1
                self.assertTrue(agrees(pager, [space for space, words in rows]))
            for space, words in rows:
                pager.release(space)
            self.assertEqual(pager.swapped, {})
        self.assertGreater(faults, 100)


if __name__ == '__main__':
    unittest.main()
