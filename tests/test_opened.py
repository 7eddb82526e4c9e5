"""Descriptors: open files, ends of pipes, the console and nothing, and tables that lead there."""

import random
import unittest

from hoststack.device import Device
from hoststack.errors import DeviceError, FileError, PipeError
from hoststack.files import make_files
from hoststack.names import tree_of, unlink
from hoststack.opened import Console, Nothing, OpenFile, PipeEnd, Table
from hoststack.pipe import Pipe
from tests.helpers import FilesCase, free_inodes, new_files, word_of


class OpenFileTest(FilesCase):
    def setUp(self):
        FilesCase.setUp(self)
        self.number = self.files.create('/f')
        self.files.write(self.number, 0, 'abcdef')

    def opened(self, reads=True, writes=True, appends=False):
        return OpenFile(self.files, self.number, reads, writes, appends)

    def text(self):
        return self.files.read(self.number, 0, 9999)

    def test_fields(self):
        opened = self.opened()
        self.assertEqual((opened.files, opened.number, opened.holders), (self.files, self.number, 0))
        self.assertEqual(self.files.holding, {self.number: 1})
        opened.close()
        self.assertEqual(self.files.holding, {})

    def test_takes(self):
        opened = self.opened()
        self.assertEqual([opened.take(2), opened.take(0), opened.take(3), opened.take(9), opened.take(1)],
                         ['ab', '', 'cde', 'f', ''])

    def test_gives(self):
        opened = self.opened()
        self.assertEqual([opened.give('XY'), opened.give(''), opened.give('Z')], [2, 0, 1])
        self.assertEqual(self.text(), 'XYZdef')
        self.assertEqual(opened.take(9), 'def')
        self.assertEqual(opened.give('ghi'), 3)
        self.assertEqual(self.text(), 'XYZdefghi')

    def test_writes_to_the_end(self):
        opened = self.opened(appends=True)
        self.assertEqual(opened.take(2), 'ab')
        self.assertEqual(opened.give(''), 0)
        self.assertEqual(opened.take(1), 'c')
        self.assertEqual(opened.give('gh'), 2)
        self.assertEqual((self.text(), opened.take(1)), ('abcdefgh', ''))
        opened.seek(0)
        opened.give('i')
        self.files.write(self.number, 9, 'jk')
        opened.give('l')
        self.assertEqual(self.text(), 'abcdefghijkl')

    def test_the_wrong_way(self):
        self.assertEqual(word_of(lambda: self.opened(reads=False).take(1)), 'not readable')
        self.assertEqual(word_of(lambda: self.opened(writes=False).give('x')), 'not writable')
        self.assertEqual(word_of(lambda: self.opened(writes=False, appends=True).give('')), 'not writable')
        self.assertEqual(self.opened(writes=False).take(9), 'abcdef')
        self.assertEqual(self.opened(reads=False).give('x'), 1)
        self.assertEqual(self.text(), 'xbcdef')

    def test_seeks(self):
        opened = self.opened()
        opened.seek(4)
        self.assertEqual(opened.take(9), 'ef')
        opened.seek(0)
        self.assertEqual(opened.take(1), 'a')
        for offset in (-1, -1000):
            self.assertEqual(word_of(lambda: opened.seek(offset)), 'bad size')
        self.assertEqual(opened.take(1), 'b')
        opened.seek(500)
        self.assertEqual(opened.take(9), '')
        self.assertEqual(self.text(), 'abcdef')
        self.assertEqual(opened.give('x'), 1)
        self.assertEqual(self.text(), 'abcdef' + '\n' * 494 + 'x')
        opened.seek(10 ** 9)
        self.assertEqual(opened.take(1), '')
        self.assertEqual(word_of(lambda: opened.give('x')), 'too large')
        opened.seek(1)
        self.assertEqual(opened.take(1), 'b')

    def test_faults_leave_the_offset(self):
        opened = self.opened()
        opened.take(2)
        self.assertEqual(word_of(lambda: opened.give('x' * 201)), 'too large')
        self.assertEqual(word_of(lambda: opened.give('%')), 'bad text')
        self.assertEqual((opened.take(9), self.text()), ('cdef', 'abcdef'))

    def test_files_never_wait(self):
        for opened in (self.opened(), self.opened(False, False)):
            self.assertEqual((opened.may_go(True), opened.may_go(False)), (True, True))

    def test_offsets_of_files_opened_twice(self):
        one, other = self.opened(), self.opened()
        self.assertEqual([one.take(2), other.take(3), one.take(2), other.take(9)], ['ab', 'abc', 'cd', 'def'])

    def test_a_file_dropped_while_it_is_open(self):
        free = free_inodes(self.files)
        one, other = self.opened(), self.opened()
        unlink(self.files, '/f')
        self.assertEqual(tree_of(self.files), ())
        self.assertEqual(one.take(2), 'ab')
        one.give('XY')
        one.close()
        self.assertEqual((other.take(9), free_inodes(self.files)), ('abXYef', free))
        other.close()
        self.assertEqual((free_inodes(self.files), self.files.holding), (free + 1, {}))

    def test_closed_twice(self):
        one, other = self.opened(), self.opened()
        one.close()
        one.close()
        self.assertEqual(self.files.holding, {self.number: 1})
        unlink(self.files, '/f')
        self.assertEqual(other.take(9), 'abcdef')
        other.close()


class PipeEndTest(unittest.TestCase):
    def setUp(self):
        self.pipe = Pipe(3)
        self.reader, self.writer = PipeEnd(self.pipe, False), PipeEnd(self.pipe, True)

    def test_ends_are_counted(self):
        self.assertEqual((self.pipe.readers, self.pipe.writers), (1, 1))
        more = [PipeEnd(self.pipe, True), PipeEnd(self.pipe, True), PipeEnd(self.pipe, False)]
        self.assertEqual((self.pipe.readers, self.pipe.writers), (2, 3))
        for end in more + [self.reader, self.reader]:
            end.close()
        self.assertEqual((self.pipe.readers, self.pipe.writers), (0, 1))

    def test_through(self):
        self.assertEqual((self.writer.give('abcd'), self.reader.take(2)), (3, 'ab'))
        self.assertEqual((self.writer.give('de'), self.writer.give('x'), self.reader.take(9)), (2, None, 'cde'))
        self.assertIsNone(self.reader.take(1))
        self.writer.close()
        self.assertEqual(self.reader.take(1), '')

    def test_who_waits(self):
        self.assertEqual((self.reader.may_go(False), self.writer.may_go(True)), (False, True))
        self.writer.give('ab')
        self.assertEqual((self.reader.may_go(False), self.writer.may_go(True)), (True, True))
        self.writer.give('c')
        self.assertEqual((self.reader.may_go(False), self.writer.may_go(True)), (True, False))
        self.reader.close()
        self.assertTrue(self.writer.may_go(True))
        with self.assertRaises(PipeError):
            self.writer.give('x')

    def test_a_reader_need_not_wait_for_the_end(self):
        self.writer.close()
        self.assertTrue(self.reader.may_go(False))
        self.assertEqual(self.reader.take(5), '')

    def test_the_wrong_way(self):
        self.assertEqual(word_of(lambda: self.writer.take(1)), 'not readable')
        self.assertEqual(word_of(lambda: self.reader.give('x')), 'not writable')
        self.assertEqual((self.reader.may_go(True), self.writer.may_go(False)), (True, True))
        self.assertEqual((self.pipe.text, self.pipe.passed), ('', 0))


class OthersTest(unittest.TestCase):
    def test_the_console(self):
        console = Console('entered\n')
        self.assertEqual(console.written, '')
        self.assertEqual([console.take(3), console.take(0), console.take(99), console.take(1)],
                         ['ent', '', 'ered\n', ''])
        for text in ('some ', '', 'text\n'):
            console.give(text)
        self.assertEqual(console.written, 'some text\n')
        console.close()
        console.give('more')
        self.assertEqual((console.written, console.may_go(True), console.may_go(False)), ('some text\nmore', True, True))
        self.assertEqual(Console().take(5), '')

    def test_nothing(self):
        nothing = Nothing()
        nothing.give('text')
        nothing.close()
        nothing.give('text')
        self.assertEqual((nothing.take(5), nothing.take(0)), ('', ''))
        self.assertEqual((nothing.may_go(True), nothing.may_go(False)), (True, True))


class TableTest(unittest.TestCase):
    def setUp(self):
        self.files = new_files()
        self.number = self.files.create('/f')
        self.files.write(self.number, 0, 'abcdef')
        self.table = Table()

    def file(self):
        return OpenFile(self.files, self.number, True, True, False)

    def test_fields(self):
        self.assertEqual(self.table.rows, {})
        nothing = Nothing()
        self.table.put(7, nothing)
        self.assertEqual(self.table.rows, {7: nothing})

    def test_what_descriptors_lead_to(self):
        rows = {0: Console(), 1: Nothing(), 5: self.file(), 2: PipeEnd(Pipe(1), True)}
        for number, opened in rows.items():
            self.table.put(number, opened)
        for number, opened in rows.items():
            self.assertIs(self.table.opened(number), opened)
        for number in (3, 4, 6, -1):
            self.assertEqual(word_of(lambda: self.table.opened(number)), 'not open')

    def test_the_least_free_number(self):
        self.assertEqual(self.table.lowest(), 0)
        self.assertEqual([self.table.add(Nothing()) for _ in range(3)], [0, 1, 2])
        self.table.put(4, Nothing())
        self.assertEqual((self.table.lowest(), self.table.add(Nothing()), self.table.lowest()), (3, 3, 5))
        self.table.close(1)
        self.table.close(0)
        self.assertEqual([self.table.add(Nothing()) for _ in range(3)], [0, 1, 5])

    def test_put_onto_one_in_use(self):
        pipe = Pipe(2)
        self.table.put(1, PipeEnd(pipe, True))
        nothing = Nothing()
        self.table.put(1, nothing)
        self.assertEqual((pipe.writers, self.table.rows), (0, {1: nothing}))

    def test_put_where_it_leads_already(self):
        opened = self.file()
        self.table.put(3, opened)
        self.table.put(3, opened)
        self.assertEqual((opened.holders, self.files.holding, opened.take(9)), (1, {self.number: 1}, 'abcdef'))
        self.table.close(3)
        self.assertEqual(self.files.holding, {})

    def test_two_descriptors_of_one(self):
        opened = self.file()
        self.table.put(0, opened)
        self.table.put(1, opened)
        self.assertEqual(opened.holders, 2)
        self.assertEqual([self.table.opened(0).take(2), self.table.opened(1).take(2)], ['ab', 'cd'])
        self.table.close(0)
        self.assertEqual((opened.holders, self.files.holding), (1, {self.number: 1}))
        self.table.close(1)
        self.assertEqual((opened.holders, self.files.holding), (0, {}))

    def test_closed_twice(self):
        self.table.put(0, self.file())
        self.table.close(0)
        for number in (0, 1, -1):
            self.assertEqual(word_of(lambda: self.table.close(number)), 'not open')
        self.assertEqual(self.table.rows, {})

    def test_all_closed(self):
        pipe = Pipe(2)
        for opened in (self.file(), PipeEnd(pipe, True), PipeEnd(pipe, False), Console(), Nothing(), self.file()):
            self.table.add(opened)
        self.table.close_all()
        self.assertEqual((self.table.rows, self.files.holding, pipe.readers, pipe.writers), ({}, {}, 0, 0))
        self.table.close_all()

    def test_copies(self):
        pipe = Pipe(2)
        opened = self.file()
        for number, row in ((0, opened), (4, PipeEnd(pipe, True))):
            self.table.put(number, row)
        other = self.table.copied()
        self.assertEqual((other.rows, opened.holders), (self.table.rows, 2))
        self.assertEqual([self.table.opened(0).take(2), other.opened(0).take(1), self.table.opened(0).take(9)],
                         ['ab', 'c', 'def'])
        self.table.close_all()
        self.assertEqual((pipe.writers, self.files.holding, sorted(other.rows)), (1, {self.number: 1}, [0, 4]))
        other.opened(0).seek(0)
        unlink(self.files, '/f')
        self.assertEqual(other.opened(0).take(9), 'abcdef')
        other.close_all()
        self.assertEqual((pipe.writers, self.files.holding, free_inodes(self.files)), (0, {}, 62))

    def test_the_console_stays(self):
        console = Console('abc')
        self.table.put(0, console)
        self.table.close(0)
        self.assertEqual(console.take(9), 'abc')

    def test_a_crash_while_it_is_closed(self):
        device = Device(64, 400)
        files = make_files(device, capacity=1)
        opened = OpenFile(files, files.create('/f'), True, True, False)
        self.table.put(0, opened)
        unlink(files, '/f')
        files.sync()
        device.arm(0)
        with self.assertRaises(DeviceError):
            device.flush()
        files.cache.blocks.clear()
        nothing = Nothing()
        for deed in (lambda: self.table.close(0), lambda: self.table.put(0, nothing), self.table.close_all):
            with self.assertRaises(DeviceError):
                deed()
            self.assertEqual((self.table.rows, opened.holders, nothing.holders), ({0: opened}, 1, 0))

    def test_by_chance(self):
        for seed in range(20):
            chance = random.Random(seed)
            pipe = Pipe(3)
            tables = [Table()]
            made = []
            for _ in range(150):
                table = chance.choice(tables)
                number = chance.randint(0, 4)
                deed = chance.randint(0, 5)
                if deed == 0:
                    made.append(chance.choice((self.file, lambda: PipeEnd(pipe, True), lambda: PipeEnd(pipe, False)))())
                    table.put(number, made[-1])
                elif deed == 1 and number in table.rows:
                    table.put(chance.randint(0, 4), table.rows[number])
                elif deed == 2 and number in table.rows:
                    table.close(number)
                elif deed == 3 and len(tables) < 6:
                    tables.append(table.copied())
                elif deed == 4 and number in table.rows:
                    least = table.lowest()
                    self.assertEqual(table.add(table.rows[number]), least)
                elif deed == 5 and chance.random() < 0.1:
                    table.close_all()
                held = [opened for table in tables for opened in table.rows.values()]
                self.assertEqual([opened.holders for opened in made], [held.count(opened) for opened in made])
                open_now = [opened for opened in made if opened in held]
                ends = [opened.writing for opened in open_now if isinstance(opened, PipeEnd)]
                self.assertEqual((pipe.writers, pipe.readers), (ends.count(True), ends.count(False)))
                self.assertEqual(self.files.holding.get(self.number, 0), len(open_now) - len(ends))
            for table in tables:
                table.close_all()

    def test_errors(self):
        with self.assertRaises(FileError):
            self.table.opened(0)


if __name__ == '__main__':
    unittest.main()
