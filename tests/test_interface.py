"""The names, arguments and default values that the document's interface lists."""

import importlib
import inspect
import unittest

from hoststack.backup import apply_changes, changes, flat
from hoststack.check import check, count_links
from hoststack.code import assemble, plain_lines
from hoststack.commands import Commands
from hoststack.device import Device
from hoststack.expand import Expansion, closed, matching_paths, moved
from hoststack.files import make_files, mount
from hoststack.folder import folder_from, split_path
from hoststack.host import Host, Result
from hoststack.inode import fresh_inode, inode_bytes
from hoststack.journal import Journal, head_of, read_head
from hoststack.kernel import Calls, Kernel
from hoststack.layout import Layout
from hoststack.letters import numbers_of, pair, word_sum
from hoststack.linetools import difference, lines_of, pack_lines, unpack_rows
from hoststack.locks import Locks
from hoststack.machine import load_program
from hoststack.names import tree_of
from hoststack.opened import Console, Nothing, OpenFile, PipeEnd, Table
from hoststack.paging import Frame, Pager, Space
from hoststack.pipe import Pipe
from hoststack.repair import repair
from hoststack.scheduler import Scheduler, run_scheduled
from hoststack.script import assignment, check_depth, parse_script
from hoststack.shell import ShellProgram
from hoststack.sums import parse_sum, sum_words
from hoststack.words import Token

INTERFACE = {
    'letters': ['letter_number(letter)', 'letter_at(number)', 'numbers_of(text)', 'text_of(numbers)',
                'check_text(text)', 'pair(number)', 'number_of_pair(data, place)', 'word_sum(numbers)'],
    'device': ['Device(block_size, count, blocks=None)', 'Device.arm(steps)', 'Device.step()', 'Device.read(number)',
               'Device.write_block(number, data)', 'Device.flush()', 'Device.restarted(choices)'],
    'journal': ['head_room(block_size, count)', 'head_of(serial, numbers, rows, block_size)', 'read_head(data)',
                'Journal(device, start, count)', 'Journal.room()', 'Journal.commit(rows)', 'Journal.pending()',
                'Journal.recover()'],
    'cache': ['Cache(journal, capacity=16)', 'Cache.read_block(number)', 'Cache.put(number, data)', 'Cache.begin()',
              'Cache.end()', 'Cache.undo()', 'Cache.sync()'],
    'layout': ['Layout(block_size, count, inodes)', 'Layout.inode_place(number)', 'Layout.bit_place(number)',
               'Layout.superblock()', 'layout_from(data)'],
    'inode': ['Inode(kind, mode, owner, links, size, direct, indirect)', 'Inode.shown()',
              'fresh_inode(kind, mode, owner)', 'inode_bytes(inode)', 'inode_from(data)', 'may(inode, user, wanted)',
              'mode_text(inode)'],
    'blocks': ['Blocks(cache, layout)', 'Blocks.is_used(number)', 'Blocks.free_count()', 'Blocks.inode(number)',
               'Blocks.most_blocks()', 'Blocks.without_blocks(inode, first)', 'Blocks.blocks_of(inode)',
               'Blocks.read_data(inode, offset, many)', 'Blocks.write_data(inode, offset, data)',
               'Blocks.cut_data(inode, size)'],
    'folder': ['check_name(name)', 'folder_bytes(entries)', 'folder_from(data)', 'split_path(path)',
               'joined_path(names)'],
    'files': ['Files(cache, layout)', 'Files.entries(number)', 'Files.put_entries(number, entries)',
              'Files.resolve(path, start=1, user=0, follow=True, depth=0)',
              "Files.add(path, start, user, sort, mode, text='')", 'Files.create(path, start=1, user=0, mode=52)',
              'Files.make_folder(path, start=1, user=0, mode=61)', 'Files.make_link(path, text, start=1, user=0)',
              'Files.list_folder(path, start=1, user=0)', 'Files.status(path, start=1, user=0, follow=True)',
              'Files.read(number, offset, many)', 'Files.write(number, offset, text)', 'Files.sync()',
              'make_files(device, inodes=64, capacity=16)', 'mount(device, capacity=16)'],
    'names': ['unlink(files, path, start=1, user=0)', 'drop_folder(files, path, start=1, user=0)',
              'link(files, old, new, start=1, user=0)', 'rename(files, old, new, start=1, user=0)',
              'depth_of(files, number=1)', 'change_mode(files, path, mode, start=1, user=0)',
              'change_owner(files, path, owner, start=1, user=0)', 'tree_of(files, number=1)'],
    'check': ['Report(sorts, blocks, names)', 'Report.shown()', 'count_links(files)', 'check(files)'],
    'repair': ['repair(files)'],
    'backup': ['flat(rows, names=())', 'sort_of(content)', 'changes(old, new)', 'is_other_sort(one, other)',
               'apply_changes(files, rows)', 'changes_text(rows)'],
    'pipe': ['Pipe(capacity)', 'Pipe.take(many)', 'Pipe.give(text)'],
    'opened': ['OpenFile(files, number, reads, writes, appends)', 'OpenFile.may_go(writing)', 'OpenFile.take(many)',
               'OpenFile.give(text)', 'OpenFile.seek(offset)', 'OpenFile.close()', 'PipeEnd(pipe, writing)',
               'PipeEnd.may_go(writing)', 'PipeEnd.take(many)', 'PipeEnd.give(text)', 'PipeEnd.close()',
               "Console(entered='')", 'Console.may_go(writing)', 'Console.take(many)', 'Console.give(text)',
               'Console.close()', 'Nothing()', 'Nothing.may_go(writing)', 'Nothing.take(many)', 'Nothing.give(text)',
               'Nothing.close()', 'Table()', 'Table.opened(number)', 'Table.put(number, opened)', 'Table.lowest()',
               'Table.add(opened)', 'Table.close(number)', 'Table.close_all()', 'Table.copied()'],
    'paging': ['Frame(words)', 'Pager(count, slots=1000)', 'Pager.release(space)', 'Space(pager, pages)',
               'Space.word_count()', 'Space.load_word(address)', 'Space.store_word(address, word)', 'Space.grow(pages)',
               'Space.forked()', 'Space.all_words()'],
    'kernel': ['Process(number, parent, program, table, folder, user)',
               "Kernel(files, frames=8, pipe_size=16, entered='')", 'Kernel.console_table()',
               'Kernel.start(program, table, folder=1, user=0, parent=0)', 'Kernel.has_room()', 'Kernel.process(number)',
               'Kernel.children(number)', 'Kernel.can_go(process)', 'Kernel.ready()', 'Kernel.alive()',
               'Kernel.step(number)', 'Kernel.end(process, code)', 'Kernel.kill(number)',
               'Kernel.run(choices, most=100000)', 'Calls(kernel, process)', 'Calls.read(number, many)',
               'Calls.write(number, text)', 'Calls.close(number)', 'Calls.start(program, table)', 'Calls.wait(number)',
               'Calls.wait_any()'],
    'code': ['plain_lines(text)', 'assemble(text)', 'disassemble(rows)'],
    'machine': ['load_program(kernel, rows)', 'is_fault(code)', 'file_text(files, number)'],
    'tools': ['is_number(text)'],
    'linetools': ['lines_of(text)', 'difference(one, other)', "pack_lines(rows, prefix='')", 'unpack_rows(text)'],
    'filetools': ['is_tool(name)', 'make_tool(words)'],
    'words': ['Token(kind, parts=())', 'Token.shown()', 'plain_text(parts)', 'is_name(text)'],
    'sums': ['sum_words(text)', 'parse_sum(text)', 'sum_text(tree, level=1)', 'number_from(text)',
             'sum_value(tree, variables)'],
    'script': ['assignment(parts)', 'parse_script(text, depth=0)', 'check_depth(tree)'],
    'scripttext': ['word_text(parts)', 'node_text(node)', 'script_text(node)'],
    'expand': ['Expansion(words, splits)', 'Expansion.is_done()', 'Expansion.next_script()',
               'Expansion.go(variables, code, names)', 'Expansion.add(text, quoted, splits)', 'is_pattern(letters)',
               'matches(text, letters)', 'closed(places, letters)', 'moved(places, sign, letters)',
               'matching_paths(files, folder, user, letters)', 'is_there(files, folder, user, path)'],
    'commands': ['Commands(variables, code)', 'Commands.give(words)'],
    'shell': ['ShellProgram(node, variables=None, code=0, functions=None)', 'ShellProgram.leave()',
              'ShellProgram.step(calls)', 'ShellProgram.begin(calls, node)'],
    'host': ['Result(text, code, steps)', 'Result.shown()', 'Host(files, frames=8, pipe_size=16, user=0)',
             "Host.run(text, choices=(), entered='', most=100000)", 'Host.is_script(text)', 'Host.tree()',
             'new_host(device, inodes=64, capacity=16)', 'host_of(device, capacity=16)'],
    'scheduler': ['Scheduler(policy, quantum=1, seed=1)', 'Scheduler.set_weight(number, weight)',
                  'Scheduler.weight(number)', 'Scheduler.choose(ready)',
                  'run_scheduled(kernel, scheduler, most=100000)', 'longest_wait(order, number)'],
    'locks': ['Locks()', 'Locks.holders_of(name)', 'Locks.fits(who, name, how)', 'Locks.ahead(who, name)',
              'Locks.blockers(who, name, how)', 'Locks.ask(who, name, how)', 'Locks.take(who, name, how)',
              'Locks.waits_for(who)', 'Locks.in_ring(who)', 'Locks.release(who, name)', 'Locks.leave(who)',
              'Locks.shown()'],
}


def told(module, line):
    """Return (what stands under a line's name, the arguments that it takes, whether it is a method)."""
    name = line.partition('(')[0]
    owner, _, method = name.partition('.')
    if method != '':
        return vars(getattr(module, owner))[method], True
    found = getattr(module, owner)
    return (vars(found)['__init__'], True) if inspect.isclass(found) else (found, False)


class InterfaceTest(unittest.TestCase):
    def test_names_and_arguments(self):
        for file, lines in INTERFACE.items():
            module = importlib.import_module(f"hoststack.{file}")
            for line in lines:
                found, is_method = told(module, line)
                rows = list(inspect.signature(found).parameters.values())[1 if is_method else 0:]
                self.assertEqual('(' + line.partition('(')[2], f"({', '.join(str(row) for row in rows)})", line)
                self.assertEqual(found.__module__, f"hoststack.{file}", line)

    def test_file_error(self):
        module = importlib.import_module('hoststack.errors')
        self.assertEqual(list(inspect.signature(vars(module.FileError)['__init__']).parameters), ['self', 'word'])


class KindsTest(unittest.TestCase):
    """What "[tuple]", "[list]" and "[table]" tell."""

    def setUp(self):
        self.device = Device(64, 200)
        self.files = make_files(self.device)
        self.number = self.files.create('/f')
        self.files.write(self.number, 500, 'text')

    def test_tuples(self):
        blocks = self.files.blocks
        inode = blocks.inode(self.number)
        head = head_of(1, (1,), [(0,) * 64], 64)
        rows = [numbers_of('a'), pair(3), word_sum(()), self.device.read(0), head, read_head(head), read_head(head)[1],
                read_head(head)[2], Journal(self.device, 1, 25).recover(), self.files.cache.read_block(0),
                Layout(64, 200, 64).inode_place(1), Layout(64, 200, 64).bit_place(1), Layout(64, 200, 64).superblock(),
                inode.shown(), inode.direct, inode_bytes(inode), fresh_inode(1, 52, 0).direct,
                blocks.read_data(inode, 0, 600), blocks.read_data(inode, 0, 0), split_path('a/b'), split_path('a/b')[1],
                self.files.list_folder('/'), tree_of(self.files), check(self.files).shown(), check(self.files).shown()[0],
                Space(Pager(1), 1).all_words(), assemble('say r0'), assemble('say r0')[0], self.heard(),
                repair(self.files), changes((), tree_of(self.files)), changes((), tree_of(self.files))[0]]
        self.assertEqual([row for row in rows if not isinstance(row, tuple)], [])

    def test_lists(self):
        blocks = self.files.blocks
        kernel = Kernel(self.files)
        rows = [Frame([]).words, Frame([]).owners, Pager(1).frames, kernel.children(1), kernel.ready(), kernel.alive(),
                plain_lines('a'), lines_of('a'), difference([], []), pack_lines(()), unpack_rows('#pack'), self.device.waiting, Journal(self.device, 1, 25).pending(),
                blocks.blocks_of(blocks.inode(self.number))]
        self.assertEqual([row for row in rows if not isinstance(row, list)], [])

    def test_tables(self):
        rows = [self.device.blocks, self.files.cache.blocks, self.files.cache.dirty, folder_from(()),
                self.files.entries(1), self.files.holding, check(self.files).sorts, count_links(self.files), flat(()),
                Table().rows, Pager(1).swapped, Kernel(self.files).processes]
        self.assertEqual([row for row in rows if not isinstance(row, dict)], [])

    def test_nothing(self):
        cache = self.files.cache
        found = [self.device.arm(None), self.device.step(), self.device.flush(), cache.begin(),
                 cache.put(0, cache.read_block(0)), cache.end(), cache.begin(), cache.undo(), cache.sync(),
                 self.files.sync(), Journal(self.device, 1, 25).commit([]), apply_changes(self.files, ())]
        self.assertEqual(found, [None] * len(found))

    def test_nothing_from_what_is_opened(self):
        table = Table()
        opened = OpenFile(self.files, self.number, True, True, False)
        found = [opened.seek(0), opened.close(), PipeEnd(Pipe(1), True).close(), Console().give('a'), Console().close(),
                 Nothing().give('a'), Nothing().close(), table.put(0, Nothing()), table.close(0), table.close_all()]
        self.assertEqual(found, [None] * len(found))

    def heard(self):
        """Return what a process without children hears."""
        kernel = Kernel(self.files)
        return Calls(kernel, kernel.process(kernel.start(load_program(kernel, ()), Table()))).wait_any()

    def test_nothing_from_processes(self):
        kernel = Kernel(self.files)
        space = Space(kernel.pager, 1)
        first, second = [kernel.process(kernel.start(load_program(kernel, ()), Table())) for _ in range(2)]
        first.table.put(0, Nothing())
        found = [space.store_word(0, 1), space.grow(1), kernel.pager.release(space), Calls(kernel, first).close(0),
                 kernel.step(1), kernel.kill(2)]
        kernel.start(load_program(kernel, ()), Table())
        found.append(kernel.end(kernel.process(3), 5))
        self.assertEqual((found, first.code, second.code), ([None] * 7, 0, 137))

    def test_kinds_of_scripts(self):
        tree = parse_script('a $(b)')
        expansion = Expansion(tree[1][0][2][1:], True)
        locks = Locks()
        locks.take(1, 'a', 'alone')
        tuples = [Token('end').shown(), assignment(tree[1][0][2][0]) or (), tree, parse_sum('1 + a'), check_depth(tree),
                  expansion.next_script(), Result('', 0, 0).shown(), Host(self.files).tree(), locks.shown(), locks.shown()[0],
                  locks.shown()[0][0][1], locks.shown()[1]]
        self.assertEqual([row for row in tuples if not isinstance(row, tuple)], [])
        lists = [sum_words('1'), expansion.words, expansion.fields, expansion.rows, closed([0], ()), moved([0], 'a', ()),
                 matching_paths(self.files, 1, 0, (('*', False),)), run_scheduled(Kernel(self.files), Scheduler('fair')),
                 locks.ahead(1, 'a'), locks.blockers(2, 'a', 'alone'), locks.waits_for(1), locks.release(1, 'a'), locks.leave(1)]
        self.assertEqual([row for row in lists if not isinstance(row, list)], [])
        self.assertIsInstance(locks.holders_of('a'), dict)

    def test_nothing_from_scripts(self):
        expansion = Expansion(parse_script('$a')[1][0][2], True)
        commands = Commands({}, 3)
        found = [expansion.add('a', False, True), expansion.go({}, 0, lambda letters: []), commands.give(['a']),
                 ShellProgram(parse_script('a')).leave(), Scheduler('fair').set_weight(1, 2), Locks().take(1, 'a', 'alone')]
        self.assertEqual((found, commands.code), ([None] * len(found), 3))

    def test_arguments_of_commands(self):
        variables = {'1': 'old', '2': 'old', 'x': 'stays'}
        commands = Commands(variables, 0)
        commands.give(['a'])
        self.assertEqual(commands.variables, {'1': 'a', '#': '1', 'x': 'stays'})
        commands.give([str(number) for number in range(1, 13)])
        self.assertEqual(commands.variables, {**{name: name for name in '123456789'}, '#': '12', 'x': 'stays'})
        commands.give([])
        self.assertEqual(commands.variables, {'#': '0', 'x': 'stays'})

    def test_blocks_hold_bytes(self):
        self.files.make_folder('/d', mode=63)
        self.files.sync()
        for data in self.device.blocks.values():
            self.assertEqual((type(data), len(data)), (tuple, 64))
            self.assertTrue(all(type(byte) is int and 0 <= byte <= 255 for byte in data))
        self.assertEqual(tree_of(mount(self.device)), tree_of(self.files))


if __name__ == '__main__':
    unittest.main()
