"""Processes one step at a time: choices, waiting, pipes, children, ends, and what a kernel does that stops."""

import itertools
import random
import unittest

from hoststack.code import assemble
from hoststack.device import Device
from hoststack.errors import DeviceError, FileError, PipeError, ProcessError, SpaceFault, StuckError
from hoststack.files import make_files
from hoststack.kernel import Calls, Kernel, Process
from hoststack.machine import load_program
from hoststack.names import change_mode, drop_folder, unlink
from hoststack.opened import Console, Nothing, OpenFile, PipeEnd, Table
from hoststack.pipe import Pipe
from tests.helpers import free_inodes, new_files, word_of

COUNT = 'set r0 {}\nset r1 1\nback:\nsay r0\nsub r0 r0 r1\njumpif r0 back'
PASS = 'back:\nask r0\nset r1 1\nadd r2 r0 r1\njumpif r2 on\njump end\non:\nsay r0\njump back\nend:'
LOOP = 'a:\njump a'


class KernelCase(unittest.TestCase):
    def setUp(self):
        self.files = new_files()
        self.kernel = Kernel(self.files)

    def start(self, text, table=None, **more):
        """Start a process that runs code, and return it."""
        table = self.kernel.console_table() if table is None else table
        return self.kernel.process(self.kernel.start(load_program(self.kernel, assemble(text)), table, **more))

    def table(self, reads, writes):
        table = Table()
        table.put(0, reads)
        table.put(1, writes)
        return table

    def step(self, process, many=1):
        for _ in range(many):
            self.kernel.step(process.number)

    def waits(self, process):
        """Check that a process cannot go on."""
        self.assertFalse(self.kernel.can_go(process))
        before = (process.steps, self.kernel.steps)
        with self.assertRaises(ProcessError):
            self.kernel.step(process.number)
        self.assertEqual((process.steps, self.kernel.steps), before)


class FieldsTest(KernelCase):
    def test_kernels(self):
        kernel = Kernel(self.files, 3, 5, 'text')
        self.assertIs(kernel.files, self.files)
        self.assertEqual((kernel.processes, kernel.steps, len(kernel.pager.frames), kernel.pipe_size), ({}, 0, 3, 5))
        self.assertIsInstance(kernel.console, Console)
        self.assertEqual((kernel.console.written, kernel.console.take(9)), ('', 'text'))
        self.assertEqual(len(Kernel(self.files).pager.frames), 8)
        for frames in (0, -1):
            with self.assertRaises(SpaceFault):
                Kernel(self.files, frames)

    def test_processes(self):
        table = Table()
        process = Process(4, 3, None, table, 1, 0)
        self.assertEqual((process.number, process.parent, process.code, process.waits, process.steps), (4, 3, None, None, 0))

    def test_a_table_of_the_console(self):
        table = self.kernel.console_table()
        self.assertEqual(sorted(table.rows), [0, 1, 2])
        for number in range(3):
            self.assertIs(table.opened(number), self.kernel.console)

    def test_calls(self):
        process = self.start('')
        self.assertIs(Calls(self.kernel, process).kernel, self.kernel)

    def test_after_each_call(self):
        process = self.start('say r0')
        self.assertEqual((process.number, process.parent, self.kernel.processes), (1, 0, {1: process}))
        self.assertEqual((self.kernel.ready(), self.kernel.alive(), self.kernel.children(1)), ([1], [1], []))
        for steps, written in ((1, ''), (2, '0\n')):
            self.kernel.step(1)
            self.assertEqual((process.steps, self.kernel.steps, process.code), (steps, steps, None))
            self.assertEqual(self.kernel.console.written, written)
        self.kernel.step(1)
        self.assertEqual((process.steps, process.code, self.kernel.processes), (3, 0, {}))
        self.assertEqual((self.kernel.ready(), self.kernel.alive()), ([], []))
        self.assertFalse(self.kernel.can_go(process))


class ChoicesTest(KernelCase):
    def order(self, choices, many=2, text='say r0'):
        """Return the numbers of the processes that went on, in order."""
        kernel = Kernel(self.files)
        processes = [kernel.process(kernel.start(load_program(kernel, assemble(text)), kernel.console_table()))
                     for _ in range(many)]
        found = []
        step = kernel.step

        def noted(number):
            found.append(number)
            step(number)

        kernel.step = noted
        self.assertEqual(kernel.run(choices), len(found))
        self.assertEqual([process.code for process in processes], [0] * many)
        return found

    def test_choices(self):
        self.assertEqual(self.order((0,) * 6), [1, 1, 1, 2, 2, 2])
        self.assertEqual(self.order((1,) * 6), [2, 2, 2, 1, 1, 1])
        self.assertEqual(self.order((0, 1, 2, 3, 4, 5)), [1, 2, 1, 2, 1, 2])
        self.assertEqual(self.order((5, 5, 5, 5, 5, 5, 5, 5, 5), 3), [3, 3, 3, 2, 2, 2, 1, 1, 1])
        self.assertEqual(self.order((-1, -2, -1, -2, -1, -1)), [2, 1, 2, 1, 2, 1])

    def test_after_all_choices(self):
        self.assertEqual(self.order(()), [1, 2, 1, 2, 1, 2])
        # The number of all steps so far, by the number of those that can go on.
        self.assertEqual(self.order((), 3), [1, 2, 3, 1, 2, 3, 1, 3, 2])
        self.assertEqual(self.order((1,)), [2, 2, 1, 2, 1, 1])
        self.assertEqual(self.order((0, 0, 0)), [1, 1, 1, 2, 2, 2])

    def test_all_steps_count(self):
        one, other = self.start('say r0'), self.start('say r0')
        self.step(one)
        self.assertEqual(self.kernel.run(()), 5)
        self.assertEqual((self.kernel.steps, one.steps, other.steps), (6, 3, 3))

    def test_what_is_written(self):
        for number, choices in enumerate(((0,) * 30, (1,) * 30, ())):
            kernel = Kernel(self.files)
            for text in (COUNT.format(2), 'set r0 7\nsay r0\nsay r0'):
                kernel.start(load_program(kernel, assemble(text)), kernel.console_table())
            kernel.run(choices)
            self.assertEqual(kernel.console.written, ('2\n1\n7\n7\n', '7\n7\n2\n1\n', '7\n2\n7\n1\n')[number])

    def test_no_process(self):
        self.assertEqual((self.kernel.run(()), self.kernel.run((1, 2))), (0, 0))


class PipeTest(KernelCase):
    def pair(self, size=16, first='set r0 5\nsay r0', second='ask r0\nsay r0'):
        """Start a process that writes into a pipe and one that reads from it."""
        pipe = Pipe(size)
        self.writer = self.start(first, self.table(Nothing(), PipeEnd(pipe, True)))
        self.reader = self.start(second, self.table(PipeEnd(pipe, False), self.kernel.console))
        return pipe

    def test_steps_by_hand(self):
        self.pair()
        self.assertEqual(self.kernel.run((0,) * 20), 9)
        self.assertEqual((self.writer.steps, self.reader.steps), (4, 5))
        self.setUp()
        self.pair()
        # The reader asks in vain first, which is a step.
        self.assertEqual(self.kernel.run((1,) * 20), 10)
        self.assertEqual((self.writer.steps, self.reader.steps, self.kernel.console.written), (4, 6, '5\n'))

    def test_a_reader_waits(self):
        self.pair()
        self.step(self.reader)
        self.assertIsNotNone(self.reader.waits)
        self.waits(self.reader)
        self.assertEqual(self.kernel.ready(), [1])
        self.step(self.writer, 2)
        self.waits(self.reader)
        self.step(self.writer)
        self.assertEqual(self.kernel.ready(), [1, 2])
        self.step(self.reader)
        self.assertIsNone(self.reader.waits)
        self.step(self.reader, 4)
        self.assertEqual((self.reader.code, self.kernel.console.written), (0, '5\n'))

    def test_a_reader_hears_of_the_end(self):
        self.pair(first='set r0 1')
        self.step(self.reader)
        self.step(self.writer)
        self.waits(self.reader)
        self.step(self.writer)
        self.assertEqual(self.writer.code, 0)
        self.kernel.run(())
        self.assertEqual(self.kernel.console.written, '-1\n')

    def test_a_writer_waits(self):
        pipe = self.pair(1)
        self.step(self.writer, 3)
        self.assertEqual((pipe.text, self.kernel.can_go(self.writer)), ('5', True))
        self.step(self.writer)
        self.waits(self.writer)
        self.assertEqual(self.kernel.ready(), [2])
        self.step(self.reader)
        self.assertTrue(self.kernel.can_go(self.writer))
        self.step(self.reader)
        self.waits(self.reader)
        self.step(self.writer)
        self.assertEqual(pipe.text, '\n')
        self.step(self.writer)
        self.assertEqual((self.writer.code, self.writer.steps), (0, 6))
        self.kernel.run(())
        self.assertEqual((self.reader.steps, pipe.passed), (6, 2))

    def test_what_is_written_in_part(self):
        pipe = self.pair(4, 'set r0 123456\nsay r0')
        self.step(self.writer, 3)
        self.assertEqual(pipe.text, '1234')
        self.step(self.reader)
        self.step(self.writer)
        self.assertEqual(pipe.text, '2345')
        self.kernel.run(())
        self.assertEqual(self.kernel.console.written, '123456\n')

    def test_a_write_without_a_reader(self):
        pipe = self.pair()
        self.kernel.kill(self.reader.number)
        self.assertEqual((self.reader.code, pipe.readers), (137, 0))
        self.kernel.run(())
        self.assertEqual((self.writer.code, self.writer.steps, pipe.writers), (141, 3, 0))

    def test_a_writer_that_waits_when_its_reader_ends(self):
        self.pair(1)
        self.step(self.writer, 4)
        self.waits(self.writer)
        self.kernel.kill(self.reader.number)
        self.step(self.writer)
        self.assertEqual(self.writer.code, 141)

    def test_whatever_the_schedule(self):
        chains = 0
        for size, frames in itertools.product((1, 2, 3, 16), (1, 8)):
            for seed in range(12):
                chance = random.Random(seed)
                kernel = self.kernel = Kernel(self.files, frames)
                many = chance.randint(2, 5)
                pipes = [Pipe(size) for _ in range(many - 1)]
                texts = [COUNT.format(12)] + [PASS] * (many - 1)
                reads = [Nothing()] + [PipeEnd(pipe, False) for pipe in pipes]
                writes = [PipeEnd(pipe, True) for pipe in pipes] + [kernel.console]
                for text, one, other in zip(texts, reads, writes):
                    self.start(text, self.table(one, other))
                kernel.run([chance.randrange(60) for _ in range(chance.choice((0, 50, 5000)))])
                self.assertEqual(kernel.console.written, ''.join(f'{number}\n' for number in range(12, 0, -1)))
                self.assertEqual([pipe.passed for pipe in pipes], [len(kernel.console.written)] * (many - 1))
                chains = chains + 1
        self.assertEqual(chains, 96)

    def test_every_schedule(self):
        written = {}
        for choices in itertools.product((0, 1), repeat=11):
            self.kernel = Kernel(self.files)
            self.pair(1, 'set r0 -3\nsay r0')
            self.kernel.run(choices)
            written[self.kernel.console.written] = True
        self.assertEqual(written, {'-3\n': True})

    def test_two_that_wait_for_each_other(self):
        one, other = Pipe(1), Pipe(1)
        self.start('ask r0\nsay r0', self.table(PipeEnd(one, False), PipeEnd(other, True)))
        self.start('ask r0\nsay r0', self.table(PipeEnd(other, False), PipeEnd(one, True)))
        processes = list(self.kernel.processes.values())
        with self.assertRaises(StuckError):
            self.kernel.run(())
        self.assertEqual([(process.code, process.waits) for process in processes], [(137, None), (137, None)])
        self.assertEqual((self.kernel.processes, self.kernel.steps), ({}, 2))
        self.assertEqual((one.readers, one.writers, other.readers, other.writers), (0, 0, 0, 0))


class RunTest(KernelCase):
    def test_so_many_steps(self):
        for most in (0, 1, 7):
            kernel = self.kernel = Kernel(self.files)
            process = self.start(LOOP)
            with self.assertRaises(StuckError):
                kernel.run((), most)
            self.assertEqual((process.steps, process.code, kernel.processes), (most, 137, {}))
        self.start('say r0')
        self.assertEqual(self.kernel.run((), 3), 3)
        process = self.start('say r0')
        with self.assertRaises(StuckError):
            self.kernel.run((), 2)
        self.assertEqual((process.code, self.kernel.console.written), (137, '0\n0\n'))

    def test_as_many_as_nothing_tells(self):
        process = self.start(LOOP)
        with self.assertRaises(StuckError):
            self.kernel.run(())
        self.assertEqual(process.steps, 100000)

    def test_what_was_done_before_is_kept(self):
        self.files.create('/f')
        number = self.files.resolve('/f')
        self.start('say r0\n' + LOOP, self.table(Nothing(), OpenFile(self.files, number, False, True, False)))
        with self.assertRaises(StuckError):
            self.kernel.run((), 50)
        self.assertEqual((self.files.read(number, 0, 9), self.files.holding), ('0\n', {}))

    def test_a_child_that_waits_is_killed_too(self):
        pipe = Pipe(1)
        PipeEnd(pipe, True)
        self.start('fork r1\nask r0', self.table(PipeEnd(pipe, False), self.kernel.console))
        with self.assertRaises(StuckError):
            self.kernel.run(())
        self.assertEqual((self.kernel.processes, pipe.readers, self.kernel.pager.frames), ({}, 0, [None] * 8))


class EndTest(KernelCase):
    def test_unknown_numbers(self):
        self.start('')
        for number in (0, 2, -1, 1000):
            for deed in (self.kernel.process, self.kernel.step, self.kernel.kill):
                with self.assertRaises(ProcessError):
                    deed(number)
        self.assertEqual(self.kernel.children(7), [])

    def test_kill(self):
        process = self.start(LOOP)
        self.step(process, 5)
        self.kernel.kill(process.number)
        self.assertEqual((process.code, self.kernel.processes, self.kernel.alive()), (137, {}, []))
        with self.assertRaises(ProcessError):
            self.kernel.kill(process.number)

    def test_a_killed_child_is_heard_of_once(self):
        parent = self.start(LOOP)
        child = self.start(LOOP, parent=parent.number)
        self.kernel.kill(child.number)
        self.assertEqual((child.code, self.kernel.alive(), self.kernel.children(1)), (137, [1], [2]))
        for deed in (self.kernel.kill, self.kernel.step):
            with self.assertRaises(ProcessError):
                deed(child.number)
        calls = Calls(self.kernel, parent)
        self.assertEqual(calls.wait(child.number), 137)
        self.assertEqual(self.kernel.children(1), [])
        with self.assertRaises(ProcessError):
            calls.wait(child.number)

    def test_what_was_held_is_closed(self):
        self.files.make_folder('/d')
        folder = self.files.resolve('/d')
        for end in ('run', 'kill', 'end'):
            pipe = Pipe(1)
            number = self.files.create('/f')
            table = self.table(PipeEnd(pipe, False), OpenFile(self.files, number, True, True, False))
            table.put(5, PipeEnd(pipe, True))
            process = self.start('set r0 1', table, folder=folder)
            self.assertEqual(word_of(lambda: drop_folder(self.files, '/d')), 'busy')
            self.assertEqual(self.files.holding, {number: 1, folder: 1})
            unlink(self.files, '/f')
            free = free_inodes(self.files)
            if end == 'run':
                self.kernel.run(())
            elif end == 'kill':
                self.kernel.kill(process.number)
            else:
                self.kernel.end(process, 77)
            self.assertEqual(process.code, {'run': 0, 'kill': 137, 'end': 77}[end])
            self.assertEqual((table.rows, pipe.readers, pipe.writers, self.files.holding), ({}, 0, 0, {}))
            self.assertEqual(free_inodes(self.files), free + 1)
        drop_folder(self.files, '/d')

    def test_children_lose_their_parent(self):
        parent = self.start('', parent=0)
        alive = self.start(LOOP, parent=parent.number)
        ended = self.start('', parent=parent.number)
        self.step(ended)
        self.assertEqual((ended.code, sorted(self.kernel.processes)), (0, [1, 2, 3]))
        self.step(parent)
        self.assertEqual((alive.parent, alive.code, sorted(self.kernel.processes)), (0, None, [2]))
        self.kernel.kill(alive.number)
        self.assertEqual(self.kernel.processes, {})

    def test_a_grandchild_stays(self):
        grandparent = self.start(LOOP)
        parent = self.start('', parent=grandparent.number)
        child = self.start(LOOP, parent=parent.number)
        self.step(parent)
        self.assertEqual((child.parent, parent.parent, sorted(self.kernel.processes)), (0, 1, [1, 2, 3]))

    def test_the_sixtieth_process(self):
        for _ in range(59):
            self.start(LOOP)
        self.assertTrue(self.kernel.has_room())
        self.start('')
        self.assertFalse(self.kernel.has_room())
        program = load_program(self.kernel, ())
        table = self.kernel.console_table()
        with self.assertRaises(ProcessError):
            self.kernel.start(program, table)
        self.assertEqual((len(self.kernel.processes), self.files.holding, len(table.rows)), (60, {1: 60}, 3))
        self.kernel.step(60)
        self.assertTrue(self.kernel.has_room())
        self.assertEqual(self.kernel.start(program, table), 61)

    def test_those_that_ended_count_until_they_are_heard_of(self):
        parent = self.start(LOOP)
        for _ in range(59):
            self.step(self.start('', parent=parent.number))
        self.assertEqual((self.kernel.has_room(), self.kernel.alive()), (False, [1]))
        calls = Calls(self.kernel, parent)
        self.assertEqual(calls.wait_any(), (2, 0))
        self.assertTrue(self.kernel.has_room())
        with self.assertRaises(ProcessError):
            calls.start(load_program(self.kernel, ()), Table())
            calls.start(load_program(self.kernel, ()), Table())

    def test_steps_that_cannot_be_carried_out(self):
        number = self.files.create('/f')
        tables = (Table(), self.table(Nothing(), OpenFile(self.files, number, True, False, False)),
                  self.table(Nothing(), PipeEnd(Pipe(1), False)))
        for table in tables:
            process = self.start('say r0\nsay r0', table)
            self.kernel.run(())
            self.assertEqual((process.code, process.steps), (139, 2))

    def test_no_space_for_what_is_written(self):
        files = new_files(64, 60)
        files.create('/f')
        number = files.create('/full')
        while files.blocks.free_count() > 0:
            size = files.blocks.inode(number).size
            files.write(number, size, 'x' * 64)
        number = files.resolve('/f')
        kernel = self.kernel = Kernel(files)
        process = self.start('say r0', self.table(Nothing(), OpenFile(files, number, True, True, True)))
        kernel.run(())
        self.assertEqual(process.code, 139)


class CallsTest(KernelCase):
    def setUp(self):
        KernelCase.setUp(self)
        self.kernel = Kernel(self.files, entered='entered')
        self.process = self.start(LOOP, user=7)
        self.calls = Calls(self.kernel, self.process)

    def test_reads_and_writes(self):
        self.assertEqual([self.calls.read(0, 3), self.calls.read(0, 0), self.calls.read(0, 99), self.calls.read(0, 1)],
                         ['ent', '', 'ered', ''])
        self.assertEqual([self.calls.write(1, 'one'), self.calls.write(2, ''), self.calls.write(2, 'two')], [3, 0, 3])
        self.assertEqual(self.kernel.console.written, 'onetwo')
        self.assertIsNone(self.process.waits)

    def test_what_is_not_open(self):
        for deed in (lambda: self.calls.read(3, 1), lambda: self.calls.write(-1, 'x'), lambda: self.calls.close(3)):
            self.assertEqual(word_of(deed), 'not open')
        self.calls.close(1)
        self.assertEqual(word_of(lambda: self.calls.write(1, 'x')), 'not open')

    def test_nothing_and_files(self):
        number = self.files.create('/f')
        for place, opened in ((3, Nothing()), (4, OpenFile(self.files, number, True, True, False))):
            self.process.table.put(place, opened)
        self.assertEqual((self.calls.write(3, 'abc'), self.calls.read(3, 9)), (3, ''))
        self.assertEqual((self.calls.write(4, 'abc'), self.calls.read(4, 9)), (3, ''))
        self.process.table.opened(4).seek(1)
        self.assertEqual(self.calls.read(4, 9), 'bc')

    def test_pipes(self):
        pipe = Pipe(3)
        reader, writer = PipeEnd(pipe, False), PipeEnd(pipe, True)
        self.process.table.put(3, reader)
        self.process.table.put(4, writer)
        self.assertIsNone(self.calls.read(3, 1))
        self.waits(self.process)
        writer.give('ab')
        self.assertTrue(self.kernel.can_go(self.process))
        self.assertEqual((self.calls.read(3, 1), self.calls.write(4, 'cdef')), ('a', 2))
        self.assertEqual(self.calls.write(4, ''), 0)
        self.assertIsNone(self.calls.write(4, 'f'))
        self.waits(self.process)
        self.calls.close(3)
        self.assertTrue(self.kernel.can_go(self.process))
        for text in ('x', ''):
            with self.assertRaises(PipeError):
                self.calls.write(4, text)
        self.assertEqual(word_of(lambda: self.calls.read(4, 1)), 'not readable')

    def test_children(self):
        child = self.kernel.process(self.calls.start(load_program(self.kernel, ()), Table()))
        self.assertEqual((child.number, child.parent, child.folder, child.user), (2, 1, 1, 7))
        self.assertIsNone(self.calls.wait(2))
        self.waits(self.process)
        self.kernel.step(2)
        self.assertTrue(self.kernel.can_go(self.process))
        self.assertEqual(self.calls.wait(2), 0)
        for number in (2, 1, 0, 99):
            with self.assertRaises(ProcessError):
                self.calls.wait(number)

    def test_no_child(self):
        other = self.start('')
        with self.assertRaises(ProcessError):
            self.calls.wait(other.number)
        self.assertEqual(self.calls.wait_any(), (0, 0))

    def test_any_child(self):
        for _ in range(3):
            self.calls.start(load_program(self.kernel, ()), Table())
        self.assertIsNone(self.calls.wait_any())
        self.waits(self.process)
        self.kernel.end(self.kernel.process(4), 44)
        self.assertTrue(self.kernel.can_go(self.process))
        self.kernel.end(self.kernel.process(3), 33)
        self.assertEqual([self.calls.wait_any(), self.calls.wait_any(), self.calls.wait_any()], [(3, 33), (4, 44), None])
        self.kernel.kill(2)
        self.assertEqual([self.calls.wait_any(), self.calls.wait_any()], [(2, 137), (0, 0)])

    def test_files_by_their_paths(self):
        files = self.files
        files.make_folder('/d', mode=63)
        self.process.folder = files.resolve('/d')
        files.write(files.create('/d/f', mode=54), 0, 'text')
        files.make_link('/d/l', 'f')
        number = self.calls.open_to_read('l')
        self.assertEqual((number, self.calls.read(number, 9)), (3, 'text'))
        self.assertEqual(word_of(lambda: self.calls.read(self.calls.open_to_write('f', True), 1)), 'not readable')
        self.calls.close(4)
        self.assertEqual(word_of(lambda: self.calls.write(number, 'x')), 'not writable')
        self.assertEqual(self.calls.write(self.calls.open_to_write('f', True), 's'), 1)
        self.assertEqual(files.read(files.resolve('/d/f'), 0, 9), 'texts')
        self.assertEqual(self.calls.write(self.calls.open_to_write('f', False), 'new'), 3)
        self.assertEqual(files.read(files.resolve('/d/f'), 0, 9), 'new')
        self.calls.open_to_write('g', False)
        self.calls.open_to_write('h', True)
        self.assertEqual((files.list_folder('/d'), files.status('/d/g').owner), (('f', 'g', 'h', 'l'), 7))
        self.assertEqual(sorted(self.process.table.rows), list(range(8)))

    def test_files_that_cannot_be_opened(self):
        files = self.files
        files.create('/f')
        change_mode(files, '/f', 0)
        for word, path in (('missing', 'x'), ('not a file', '/'), ('denied', 'f'), ('not a folder', 'f/x')):
            self.assertEqual(word_of(lambda: self.calls.open_to_read(path)), word)
        for word, path in (('missing', 'x/y'), ('not a file', '.'), ('denied', 'f'), ('bad name', 'n' * 31)):
            self.assertEqual(word_of(lambda: self.calls.open_to_write(path, False)), word)
        change_mode(files, '/', 61)
        self.assertEqual(word_of(lambda: self.calls.open_to_write('new', False)), 'denied')
        self.assertEqual((self.process.table.lowest(), files.list_folder('/')), (3, ('f',)))


class CrashTest(KernelCase):
    def test_a_device_that_crashes(self):
        device = Device(64, 200)
        self.files = make_files(device, capacity=1)
        number = self.files.create('/f')
        self.kernel = Kernel(self.files)
        process = self.start(COUNT.format(100), self.table(Nothing(), OpenFile(self.files, number, True, True, True)))
        device.arm(20)
        with self.assertRaises(DeviceError):
            self.kernel.run(())
            self.files.sync()
        self.assertTrue(device.dead)
        self.assertIn(process.code, (None, 0))

    def test_errors_are_of_their_own(self):
        self.assertFalse(issubclass(StuckError, ProcessError) or issubclass(ProcessError, FileError))


if __name__ == '__main__':
    unittest.main()
