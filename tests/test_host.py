"""Hosts: scripts from their text to their end, and every bound that a script can come to."""

import unittest

from hoststack.check import check
from hoststack.device import Device
from hoststack.errors import DeviceError, FileError, ShellError, SpaceFault, StuckError
from hoststack.files import make_files, mount
from hoststack.host import Host, Result, host_of, new_host
from hoststack.kernel import Kernel
from hoststack.names import change_mode, tree_of
from tests.helpers import HostCase, free_inodes


class ResultTest(HostCase):
    def test_result(self):
        result = Result('text', 3, 9)
        self.assertEqual((result.text, result.code, result.steps, result.shown()), ('text', 3, 9, ('text', 3)))
        self.assertIsInstance(result.shown(), tuple)

    def test_what_a_run_returns(self):
        result = self.host.run('echo a; exit 4')
        self.assertEqual((result.text, result.code), ('a\n', 4))
        self.assertEqual(result.steps, self.host.kernel.steps)
        self.assertGreater(result.steps, 0)
        self.assertEqual(self.host.kernel.console.written, 'a\n')

    def test_steps_are_those_of_all_processes(self):
        for script in ('echo a', 'echo a | cat', 'x=$(echo a) & wait'):
            steps = self.host.run(script).steps
            self.assertEqual(self.host.run(script, most=steps).steps, steps)
            with self.assertRaises(StuckError):
                self.host.run(script, most=steps - 1)
            self.check_end()


class HostTest(HostCase):
    def test_fields(self):
        files = make_files(Device(64, 300))
        host = Host(files)
        self.assertIs(host.files, files)
        self.assertEqual((host.frames, host.pipe_size, host.user, host.kernel), (8, 16, 0, None))
        host = Host(files, 3, 5, 7)
        self.assertEqual((host.frames, host.pipe_size, host.user), (3, 5, 7))
        host.run(':')
        self.assertIsInstance(host.kernel, Kernel)
        self.assertIs(host.kernel.files, files)
        self.assertEqual((len(host.kernel.pager.frames), host.kernel.pipe_size), (3, 5))

    def test_each_script_has_a_kernel_of_its_own(self):
        self.host.run('echo a')
        first = self.host.kernel
        self.host.run('echo b')
        self.assertIsNot(self.host.kernel, first)
        self.assertEqual((first.console.written, self.host.kernel.console.written), ('a\n', 'b\n'))

    def test_nothing_but_files_goes_along(self):
        self.gives('mkdir d; cd d; x=1; f() { :; }; echo a > b', '')
        self.gives('ls; echo [$x]; f', 'd\n[]\nf: missing\n', 127)

    def test_entered(self):
        self.gives('read x; cat; echo [$x]', 'two\n[one]\n', entered='one\ntwo\n')
        self.gives('read x; echo $?', '1\n')

    def test_choices(self):
        found = {self.host.run('echo a & echo b & wait', choices).text for choices in ((), (0,) * 90, (2,) * 90, (1, 2) * 60)}
        self.assertEqual(found, {'a\nb\n', 'b\na\n'})
        self.gives('echo a | cat; echo b', 'a\nb\n', choices=(10 ** 9, -1, 5) * 20)

    def test_is_script(self):
        for text in ('a', 'if a; then b; fi', 'a $(b)', 'x=1', ' a # b', 'a\n\nb &', 'a' * 4000):
            self.assertIs(self.host.is_script(text), True, text)
        for text in ('', '#', 'if', 'a |', '"', 'a $(', '}', '$', 'a' * 4001, '(', '{ ' * 25 + 'a' + '; }' * 25):
            self.assertIs(self.host.is_script(text), False, text)

    def test_tree(self):
        self.assertEqual(self.host.tree(), ())
        self.host.run('mkdir d; echo a > d/f; ln -s f d/l')
        tree = (('d', 61, 0, ('folder', (('f', 52, 0, 'a\n'), ('l', 61, 0, ('link', 'f'))))),)
        self.assertEqual(self.host.tree(), tree)
        self.assertEqual(tree_of(self.files), tree)

    def test_new_hosts(self):
        device = Device(64, 300)
        host = new_host(device)
        self.assertEqual((host.files.layout.inodes, host.files.cache.capacity), (64, 16))
        host = new_host(device, 20, 5)
        self.assertEqual((host.files.layout.inodes, host.files.cache.capacity), (20, 5))
        self.assertEqual((host.frames, host.pipe_size, host.user), (8, 16, 0))
        host.run('echo a > f; sync; echo b > f')
        found = host_of(device.restarted(()), 7)
        self.assertEqual((found.tree(), found.files.cache.capacity), ((('f', 52, 0, 'a\n'),), 7))
        self.assertEqual(host_of(device.restarted(())).files.cache.capacity, 16)
        self.assertEqual(found.run('cat f').shown(), ('a\n', 0))

    def test_what_is_no_device_for_a_host(self):
        with self.assertRaises(FileError):
            new_host(Device(32, 300))
        with self.assertRaises(FileError):
            host_of(Device(64, 300))
        for make in (new_host, host_of):
            device = Device(64, 300)
            new_host(device)
            device.arm(0)
            with self.assertRaises(DeviceError):
                device.step()
            with self.assertRaises(DeviceError):
                make(device)


class ErrorTest(HostCase):
    def test_invalid_scripts_change_nothing(self):
        self.host.run('echo a > f')
        kernel = self.host.kernel
        for script in ('', 'echo b > f; (', 'echo b > f; if', 'echo b > f; $0', 'x' * 4001):
            with self.assertRaises(ShellError):
                self.host.run(script)
        self.assertEqual((self.text('/f'), self.host.kernel), ('a\n', kernel))

    def test_no_frame(self):
        self.host.frames = 0
        with self.assertRaises(SpaceFault):
            self.host.run('echo a > f')
        with self.assertRaises(ShellError):
            self.host.run('(')
        self.assertEqual(self.names(), ())

    def test_too_many_steps(self):
        with self.assertRaises(StuckError):
            self.host.run('echo a > f; mkdir d; cd d; while true; do :; done', most=2000)
        self.check_end()
        self.assertEqual((self.text('/f'), self.names()), ('a\n', ('d', 'f')))
        self.gives('rmdir d; ls', 'f\n')

    def test_no_steps(self):
        with self.assertRaises(StuckError):
            self.host.run('echo a > f', most=0)
        self.assertEqual(self.names(), ())
        self.check_end()

    def test_a_hundred_thousand_steps(self):
        with self.assertRaises(StuckError):
            self.host.run('while :; do :; done')
        self.assertEqual(self.host.kernel.steps, 100000)

    def test_a_pipe_without_room(self):
        self.host.pipe_size = 0
        self.gives('echo a; echo b | cat; echo c', 'a\n', 141)
        self.gives('echo a; x=$(echo b); echo c', 'a\n', 141)

    def test_a_crash(self):
        device = self.files.cache.journal.device
        device.arm(4)
        with self.assertRaises(DeviceError):
            self.host.run('echo a > f; sync; echo b > g; sync')
        self.assertTrue(device.dead)
        host = host_of(device.restarted((1,) * 50))
        check(host.files)


class BoundTest(HostCase):
    def test_sixty_processes(self):
        # Beside the script's own process and those that ended and were not heard of, echo is one more.
        self.gives(': & ' * 58 + 'echo end', 'end\n')
        self.gives(': & ' * 59 + ':', '')
        self.gives(': & ' * 59 + 'echo end', '', 139)
        self.gives(': & ' * 60 + ':', '', 139)
        self.gives(': & ' * 59 + 'wait; echo end', 'end\n')

    def test_long_pipelines(self):
        self.gives(' | '.join([':'] * 59), '')
        self.gives(' | '.join([':'] * 60), '', 139)
        self.gives(' | '.join([':'] * 300), '', 139)
        self.gives('echo a | ' + ' | '.join(['cat'] * 28), 'a\n')
        self.gives('(' + ' | '.join([':'] * 300) + '); echo $?', '139\n')
        self.gives('{ ' + ' | '.join([':'] * 300) + '; } > /f; echo $?', '', 139)
        self.assertEqual(self.names(), ('f',))

    def test_too_many_processes_everywhere(self):
        for last in ('(:)', 'x=$(:)', 'true', ': &', ': | :', '{ true; } > /f', 'echo "$(:)"', 'f() { true; }; f',
                     '{ (:); } > /f < /f', '{ : & } > /f', '{ x=$(:); } > /f', '{ : | :; } > /f'):
            self.gives(': & ' * 59 + last + '\necho end', '', 139)
            self.gives('(' + ': & ' * 58 + last + '\necho end); echo $?', '139\n')

    def test_just_enough_processes(self):
        for many, last in ((58, '(:)'), (58, 'x=$(:)'), (58, 'true'), (58, ': &'), (57, ': | :'), (57, '(true)'), (57, 'x=$(true)'),
                           (57, 'true &'), (55, 'true | true'), (56, ': | true')):
            self.gives(': & ' * many + last, '')

    def test_forks_of_programs(self):
        self.put('/fork', '#code\nfork r1\njumpif r1 parent\nset r2 100\nback:\nset r3 1\nsub r2 r2 r3\njumpif r2 back\nexit r2\n'
                 'parent:\nset r3 -1\nsame r4 r1 r3\nexit r4\n', mode=61)
        self.gives(': & ' * 57 + 'fork; echo $?', '0\n')
        self.gives(': & ' * 58 + 'fork; exit', '', 1)

    def test_inodes(self):
        host = new_host(Device(64, 300), 5)
        self.assertEqual(host.run('touch a b c; echo $?; touch d; mkdir d; ln -s a d; ls').shown(),
                         ('0\ntouch: no inodes\nmkdir: no inodes\nln: no inodes\na\nb\nc\n', 0))
        self.assertEqual(host.run('> d; echo $?; ln a d; rm b; > e; ls').shown(), ('shell: no inodes\n1\na\nc\nd\ne\n', 0))

    def test_blocks(self):
        host = new_host(Device(64, 80))
        free = host.files.blocks.free_count()
        result = host.run('while echo xxxxxxxxxxxxxxx >> f; do :; done; echo $?; ls -l f').shown()
        size = host.files.status('/f').size
        self.assertEqual(result, (f'echo: no space\n0\n-rw-r-- 1 0 {size} f\n', 0))
        # Of the blocks one is the root's and, of more than six, one tells where the others are.
        self.assertEqual((size, host.files.blocks.free_count()), ((free - 2) * 64, 0))
        # An empty folder has no block, but its first name needs one.
        self.assertEqual(host.run('echo y >> f; mkdir d; echo z > d/x; mkdir d/y; rm f; echo z > d/x; cat d/x').shown(),
                         ('echo: no space\nshell: no space\nmkdir: no space\nz\n', 0))

    def test_the_size_of_a_file(self):
        host = new_host(Device(64, 300))
        most = (6 + 32) * 64
        self.assertEqual(host.run('x=xxxxxxxxxxxxxxx; while echo $x >> f; do :; done; ls -l f').text,
                         f'echo: too large\n-rw-r-- 1 0 {most} f\n')
        self.assertEqual(host.run('echo >> f; cat f | wc; cat f f > g; echo $?; cat g | wc').text,
                         f'echo: too large\n{most // 16} {most // 16} {most}\ncat: too large\n1\n' + host.run('cat g | wc').text)

    def test_names_of_a_folder(self):
        host = new_host(Device(64, 400), 100)
        name = 'n' * 28
        # Each name has 33 bytes in its folder, which has at most 8 blocks of 64 bytes.
        made = 8 * 64 // 33
        result = host.run(f'for x in $(seq 10 60); do touch {name}$x || exit $x; done').shown()
        self.assertEqual(result, ('touch: no space\n', 10 + made))
        self.assertEqual(len(host.files.list_folder('/')), made)

    def test_folders_within_each_other(self):
        self.gives('x=0; while mkdir d && cd d; do x=$((x + 1)); done; echo $x', 'mkdir: too deep\n29\n')
        self.gives('mkdir e; mkdir e/e; mv e ' + '/'.join('d' * 27) + '; mv e ' + '/'.join('d' * 29) + '/e', 'mv: not empty\nmv: too deep\n', 1)

    def test_links_one_after_another(self):
        self.gives('echo text > f; ln -s f l1; for x in 1 2 3 4 5 6 7 8; do ln -s l$x l$((x + 1)); done; cat l8; cat l9; cat < l9',
                   'text\ncat: too many links\nshell: too many links\n', 1)

    def test_names(self):
        self.gives(f'touch {"n" * 30}; touch {"n" * 31}; ls', f'touch: bad name\n{"n" * 30}\n')

    def test_long_rows_of_numbers(self):
        self.gives('seq 1 999999999 | head -2', '1\n2\n')

    def test_long_texts(self):
        self.gives("x=xxxxxxxxxx; x=$x$x$x$x$x; x=$x$x$x$x$x$x$x; echo $x > /f; echo $x | wc; cat f | wc", '1 1 351\n1 1 351\n')


class UserTest(HostCase):
    def setUp(self):
        super().setUp()
        self.host.run('mkdir d open; echo text > f; chmod 77 open; chmod 70 d; echo in > d/g')
        self.host.user = 6

    def test_what_another_user_makes(self):
        self.gives('cd open; echo mine > g; mkdir h; chmod 60 g; ls -l; cat g', f'-rw---- 1 6 5 g\ndrwxr-x 1 6 0 h\nmine\n')
        self.host.user = 7
        self.gives('cat open/g; rm open/g; ls open', 'cat: denied\nh\n')

    def test_what_is_denied(self):
        change_mode(self.files, '/', 61)
        self.gives('echo a > f; echo a > new; mkdir new; rm f; mv f new; ln f new; ls d; cat d/g; cd d; chmod 77 f; echo d/*; cat f',
                   'shell: denied\nshell: denied\nmkdir: denied\nrm: denied\nmv: denied\nln: denied\nls: denied\ncat: denied\n'
                   'cd: denied\nchmod: denied\nd/*\ntext\n')
        self.gives('test -e d/g; echo $?; find d; pack d', '1\nd\nfind: denied\npack: denied\n', 1)

    def test_the_root_is_everybody_s(self):
        self.gives('echo a > new; ls -l new', '-rw-r-- 1 6 2 new\n')

    def test_unpacking_is_the_user_s_own(self):
        self.gives('mkdir open/x; echo one > open/x/a; chmod 40 open/x/a; pack open/x > open/p; mkdir open/y; unpack open/y open/p; ls -l open/y',
                   '-r----- 1 6 4 a\n')

    def test_in_pipelines_and_scripts(self):
        self.gives('x=$(cat d/g 2> /dev/null; echo $?); echo $x | cat; (cat d/g) & wait', '1\ncat: denied\n')


class AgainTest(unittest.TestCase):
    def test_a_second_host_goes_on(self):
        device = Device(64, 300)
        host = new_host(device)
        host.run('mkdir d; echo a > d/f; sync')
        other = host_of(device)
        self.assertEqual(other.run('echo b >> d/f; cat d/f').shown(), ('a\nb\n', 0))
        other.files.sync()
        self.assertEqual(tree_of(mount(device)), other.tree())

    def test_nothing_is_left(self):
        host = new_host(Device(64, 300))
        free, inodes = host.files.blocks.free_count(), free_inodes(host.files)
        for _ in range(3):
            host.run('mkdir d; seq 1 200 > d/f; cp d/f d/g; rm d/f d/g; rmdir d')
            self.assertEqual((host.files.blocks.free_count() + 1 >= free, free_inodes(host.files)), (True, inodes))


if __name__ == '__main__':
    unittest.main()
