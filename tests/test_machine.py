"""Processes that run code: each instruction at its bounds, and each code that is told."""

import unittest

from hoststack.code import assemble
from hoststack.errors import FileError
from hoststack.kernel import Kernel
from hoststack.machine import file_text, is_fault, load_program
from tests.helpers import new_files, word_of

LEAST, MOST = -2 ** 31, 2 ** 31 - 1


def run(text, entered='', frames=8, choices=()):
    """Return (what was written, the code, the steps of the first process) of a program."""
    kernel = Kernel(new_files(), frames, 16, entered)
    number = kernel.start(load_program(kernel, assemble(text)), kernel.console_table())
    process = kernel.process(number)
    kernel.run(choices)
    assert kernel.processes == {} and kernel.pager.frames == [None] * frames and kernel.pager.swapped == {}
    return kernel.console.written, process.code, process.steps


class MachineCase(unittest.TestCase):
    def written(self, text, found, **more):
        """Check what a program writes that ends with code 0."""
        self.assertEqual(run(text, **more)[:2], (found, 0))

    def ended(self, text, code, written=''):
        self.assertEqual(run(text)[:2], (written, code))


class NumbersTest(MachineCase):
    def reckoned(self, word, one, other):
        text, code, steps = run(f'set r0 {one}\nset r1 {other}\n{word} r2 r0 r1\nsay r2')
        self.assertEqual(code, 0)
        return int(text)

    def test_zeros_at_first(self):
        self.written(''.join(f'say r{number}\n' for number in range(8)) + 'set r1 7\nload r2 r1\nsay r2', '0\n' * 9)

    def test_set_and_copy(self):
        for number in (0, -1, MOST, LEAST):
            self.written(f'set r3 {number}\ncopy r4 r3\nsay r4', f'{number}\n')

    def test_numbers_wrap(self):
        self.assertEqual(self.reckoned('add', MOST, 1), LEAST)
        self.assertEqual(self.reckoned('add', LEAST, -1), MOST)
        self.assertEqual(self.reckoned('sub', LEAST, 1), MOST)
        self.assertEqual(self.reckoned('sub', 0, LEAST), LEAST)
        self.assertEqual(self.reckoned('mul', 65536, 65536), 0)
        self.assertEqual(self.reckoned('mul', 65536, 32768), LEAST)
        self.assertEqual(self.reckoned('mul', MOST, MOST), 1)
        self.assertEqual(self.reckoned('div', LEAST, -1), LEAST)
        self.assertEqual(self.reckoned('mod', LEAST, -1), 0)

    def test_each_pair_of_signs(self):
        for one in (7, -7, 6, -6, 0, 1, -1, MOST, LEAST):
            for other in (2, -2, 3, -3, 7, -7, 1, MOST, LEAST):
                self.assertEqual(self.reckoned('div', one, other), one // other)
                self.assertEqual(self.reckoned('mod', one, other), one % other)
                self.assertEqual(self.reckoned('less', one, other), int(one < other))
                self.assertEqual(self.reckoned('same', one, other), int(one == other))
                self.assertEqual(self.reckoned('sub', one, other), (one - other + 2 ** 31) % 2 ** 32 - 2 ** 31)

    def test_by_zero(self):
        for word in ('div', 'mod'):
            for one in (0, 1, -1):
                self.ended(f'set r0 {one}\nsay r0\n{word} r0 r0 r7\nsay r0', 136, f'{one}\n')

    def test_the_result_may_be_an_operand(self):
        self.written('set r0 6\nset r1 4\nsub r0 r0 r1\nsay r0\nsub r1 r0 r1\nsay r1\nadd r1 r1 r1\nsay r1', '2\n-2\n-4\n')


class MemoryTest(MachineCase):
    def test_words(self):
        self.written('set r0 7\nset r1 -5\nstore r0 r1\nload r2 r0\nsay r2\nset r0 6\nload r2 r0\nsay r2', '-5\n0\n')

    def test_addresses_outside(self):
        for address in (8, 9, -1, MOST, LEAST):
            self.ended(f'set r0 {address}\nload r1 r0\nsay r1', 139)
            self.ended(f'set r0 {address}\nstore r0 r1\nsay r1', 139)

    def test_growth(self):
        text = 'set r0 2\ngrow r0\nset r1 23\nstore r1 r0\nload r2 r1\nsay r2\nset r1 24\nload r2 r1\nsay r2'
        self.ended(text, 139, '2\n')
        self.written('grow r0\nset r0 63\ngrow r0\nset r1 511\nload r2 r1\nsay r2', '0\n')
        self.ended('set r0 64\ngrow r0', 139)
        self.ended('set r0 -1\ngrow r0', 139)

    def test_forks_have_memories_of_their_own(self):
        text = '''set r1 5
            store r0 r1
            fork r2
            jumpif r2 parent
            set r1 6
            store r0 r1
            parent:
            wait r3
            load r4 r0
            say r4'''
        for frames in (1, 2, 8):
            self.written(text, '6\n5\n', frames=frames)


class JumpTest(MachineCase):
    def test_jumps(self):
        self.written('jump on\nsay r0\non:\njump end\nsay r0\nend:', '')
        self.written('set r0 3\nset r1 1\nback:\nsay r0\nsub r0 r0 r1\njumpif r0 back', '3\n2\n1\n')

    def test_unless_zero(self):
        for number, found in ((0, '1\n'), (1, ''), (-1, ''), (LEAST, '')):
            self.written(f'set r5 {number}\nset r1 1\njumpif r5 end\nsay r1\nend:', found)
            self.written(f'set r0 {number}\nset r1 1\njumpif r0 end\nsay r1\nend:', found)

    def test_pid(self):
        self.written('pid r0\nsay r0', '1\n')


class AskTest(MachineCase):
    def test_lines(self):
        rows = {'12\n': 12, '-3\n': -3, '\n': 0, '': -1, '7': 7, 'x\n': 0, '1x\n': 0, '-\n': 0, '--1\n': 0, '+1\n': 0,
                '-1\n': -1, '000\n': 0, f'{MOST}\n': MOST, f'{LEAST}\n': LEAST, '0' * 20 + '12\n': 12, '-' + '0' * 20 + '12': -12}
        for entered, number in rows.items():
            self.written('set r1 5\nask r1\nsay r1', f'{number}\n', entered=entered)

    def test_lines_that_are_not_of_32_bits(self):
        for entered in ('2147483648', '-2147483649', '4294967296', '4294967297', '-4294967297', '9' * 30, '-' + '9' * 30):
            self.written('set r1 5\nask r1\nsay r1', '0\n', entered=entered)
            self.written('set r1 5\nask r1\nsay r1\nask r1\nsay r1', '0\n3\n', entered=entered + '\n3\n')

    def test_line_after_line(self):
        self.written('ask r0\nsay r0\nask r0\nsay r0\nask r0\nsay r0\nask r0\nsay r0', '1\n0\n23\n-1\n', entered='1\n\n23')

    def test_steps(self):
        # A step for each character, or for the end; one that says, one that writes, and the last.
        for entered, many in (('12\n', 3), ('\n', 1), ('', 1), ('12', 3), ('1234\n5', 5)):
            self.assertEqual(run('ask r0', entered)[2], many + 1)
            self.assertEqual(run('ask r0\nsay r0', entered)[2], many + 3)


class EndTest(MachineCase):
    def test_codes(self):
        for number, code in ((0, 0), (1, 1), (255, 255), (256, 0), (257, 1), (-1, 255), (MOST, 255), (LEAST, 0)):
            self.ended(f'set r0 {number}\nexit r0\nsay r0', code)
        self.ended('', 0)
        self.ended('a:', 0)

    def test_steps(self):
        rows = (('', 1), ('set r0 1', 2), ('set r0 1\nexit r0', 2), ('say r0', 3), ('say r0\nexit r0', 3),
                ('div r0 r0 r0', 1), ('a:\njump b\nb:', 2), ('say r0\nsay r0', 5), ('wait r0', 2), ('pid r0\nsay r0', 4))
        for text, many in rows:
            self.assertEqual(run(text)[2], many, text)

    def test_two_hundred_rows(self):
        self.assertEqual(run('set r0 1\n' * 200)[2], 201)

    def test_descriptors_that_are_not_open(self):
        for text in ('say r0', 'ask r0'):
            kernel = Kernel(new_files())
            table = kernel.console_table()
            table.close_all()
            process = kernel.process(kernel.start(load_program(kernel, assemble(text)), table))
            kernel.run(())
            self.assertEqual(process.code, 139)

    def test_faults_of_their_own(self):
        self.assertEqual([code for code in range(256) if is_fault(code)], [136, 139])


class ForkTest(MachineCase):
    def test_numbers(self):
        self.written('fork r1\nsay r1\nwait r2\nsay r2', '2\n0\n-1\n0\n', choices=(0,) * 40)

    def test_a_fork_goes_on_at_the_next_row(self):
        self.written('set r7 9\nfork r1\njumpif r1 on\nsay r7\non:\nwait r2', '9\n')

    def test_registers_are_copied(self):
        self.written('set r7 1\nfork r1\njumpif r1 on\nset r7 2\non:\nwait r2\nsay r7', '2\n1\n')

    def test_codes_of_children(self):
        text = 'fork r1\njumpif r1 on\nset r0 {}\nexit r0\non:\nwait r2\nsay r2'
        for number in (0, 1, 255):
            self.written(text.format(number), f'{number}\n')
        self.written('fork r1\njumpif r1 on\ndiv r0 r0 r0\non:\nwait r2\nsay r2', '136\n')
        self.written('fork r1\njumpif r1 on\nset r0 8\nload r0 r0\non:\nwait r2\nsay r2', '139\n')

    def test_steps_of_waiting(self):
        # The parent waits for its child, which has none: a step more than if the child has ended before.
        for choices, steps, all_steps in (((0,) * 9, 4, 6), ((0, 1, 1, 1, 1, 1), 3, 5)):
            kernel = Kernel(new_files())
            process = kernel.process(kernel.start(load_program(kernel, assemble('fork r1\nwait r2')), kernel.console_table()))
            self.assertEqual((kernel.run(choices), process.steps, process.code), (all_steps, steps, 0))

    def test_wait_without_children(self):
        self.written('wait r1\nsay r1\nwait r1\nsay r1', '-1\n-1\n')

    def test_the_sixtieth_process(self):
        text = 'back:\nfork r1\njumpif r1 parent\nchild:\njump child\nparent:\nset r2 1\nadd r3 r1 r2\njumpif r3 back\nexit r7'
        kernel = Kernel(new_files())
        number = kernel.start(load_program(kernel, assemble(text)), kernel.console_table())
        process = kernel.process(number)
        while process.code is None:
            kernel.step(number)
        self.assertEqual((process.code, len(kernel.processes), kernel.has_room()), (0, 59, True))
        for number in kernel.alive():
            kernel.kill(number)
        self.assertEqual((kernel.processes, kernel.pager.frames), ({}, [None] * 8))

    def test_no_swap_space_for_a_child(self):
        kernel = Kernel(new_files(), 1)
        kernel.pager.slots = 1
        text = 'set r1 1\ngrow r1\nset r0 8\nstore r0 r1\nset r0 0\nstore r0 r1\nfork r1'
        process = kernel.process(kernel.start(load_program(kernel, assemble(text)), kernel.console_table()))
        kernel.run(())
        self.assertEqual((process.code, kernel.pager.swapped, kernel.pager.frames), (139, {}, [None]))


class FileTextTest(unittest.TestCase):
    def setUp(self):
        self.files = new_files(256)

    def test_texts(self):
        for many in (0, 1, 4999, 5000):
            number = self.files.create(f'/f{many}')
            for place in range(0, many, 200):
                self.files.write(number, place, ('x' * many)[place:place + 200])
            self.assertEqual(file_text(self.files, number), 'x' * many)

    def test_faults(self):
        number = self.files.create('/f')
        self.files.write(number, 5000, 'x')
        self.assertEqual(word_of(lambda: file_text(self.files, number)), 'too large')
        for other in (self.files.make_folder('/d'), self.files.make_link('/l', 'f'), 1, 40):
            self.assertEqual(word_of(lambda: file_text(self.files, other)), 'not a file')
        with self.assertRaises(FileError):
            file_text(self.files, 1000)


if __name__ == '__main__':
    unittest.main()
