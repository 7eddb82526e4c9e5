"""What scripts do: every form of a command, how words expand, codes, and where descriptors lead."""

import unittest

from hoststack.errors import StuckError
from hoststack.filetools import make_tool
from hoststack.kernel import Kernel
from hoststack.names import change_mode, tree_of
from hoststack.opened import PipeEnd
from hoststack.pipe import Pipe
from hoststack.script import parse_script
from hoststack.shell import ShellProgram
from tests.helpers import HostCase


class CodeTest(HostCase):
    def code(self, script, code, text=''):
        self.gives(script, text, code)
        self.gives(script + '\necho $?', text + f'{code}\n')

    def test_simple_commands(self):
        self.code('true', 0)
        self.code('false', 1)
        self.code('test a b', 2)
        self.code(':', 0)
        self.code('x=1', 0)
        self.code('false; x=1', 0)
        self.code('> /f', 0)
        self.code('$none', 0)
        self.code('false; $none', 0)

    def test_lists_have_their_last_command_s(self):
        self.code('true; false', 1)
        self.code('false; true', 0)
        self.code('{ true; false; }', 1)
        self.code('(true; false)', 1)
        self.code('(false; test a b)', 2)
        self.code('{ false; }; true', 0)

    def test_pipelines_have_their_last_command_s(self):
        self.code('true | false', 1)
        self.code('false | true', 0)
        self.code('false | true | test a b', 2)
        self.code('exit 7 | exit 9', 9)
        self.code('(exit 7) | true | (exit 9)', 9)

    def test_not(self):
        self.code('! true', 1)
        self.code('! false', 0)
        self.code('! test a b', 0)
        self.code('! true | false', 0)
        self.code('! ! false', 1)

    def test_and_and_or(self):
        self.code('true && false', 1)
        self.code('false && true', 1)
        self.code('true || false', 0)
        self.code('false || test a b', 2)
        self.code('true && echo a || echo b', 0, 'a\n')
        self.code('false && echo a || echo b', 0, 'b\n')
        self.code('false || true && echo a', 0, 'a\n')
        self.code('true || echo a && echo b', 0, 'b\n')
        self.code('false && echo a && echo b', 1)
        self.code('! false && echo a', 0, 'a\n')

    def test_background(self):
        self.code('false; false &', 0)
        self.code('(exit 5) & true', 0)

    def test_if(self):
        self.code('if true; then false; fi', 1)
        self.code('if false; then true; fi', 0)
        self.code('if false; false; then true; fi', 0)
        self.code('if false; then true; else test a b; fi', 2)
        self.code('if false; then true; elif false; then true; fi', 0)
        self.code('if false; then echo a; elif true; then echo b; else echo c; fi', 0, 'b\n')
        self.code('if false; then echo a; elif false; then echo b; else echo c; fi', 0, 'c\n')
        self.code('if true; then echo a; elif true; then echo b; else echo c; fi', 0, 'a\n')
        self.code('if false; true; then echo a; fi', 0, 'a\n')
        self.code('if true; false; then echo a; fi', 0)

    def test_case(self):
        self.code('case a in b) false;; esac', 0)
        self.code('false; case a in b) false;; esac', 0)
        self.code('case a in esac', 0)
        self.code('case a in a) false;; esac', 1)
        self.code('case a in b) true;; a) test a b;; *) true;; esac', 2)

    def test_for(self):
        self.code('for x in a b; do false; done', 1)
        self.code('for x in; do false; done', 0)
        self.code('false; for x in $none; do false; done', 0)
        self.code('for x in 1 0; do test $x = 1; done', 1)
        self.code('for x in 0 1; do test $x = 1; done', 0)

    def test_while(self):
        self.code('while false; do false; done', 0)
        self.code('false; while test a b; do true; done', 0)
        self.code('x=a; while test $x != aaa; do x=a$x; false; done', 1)
        self.code('x=a; while test $x != aaa; do x=a$x; test a b; done', 2)
        self.code('x=a; while test $x != aaa; do x=a$x; done', 0)

    def test_functions(self):
        self.code('false; f() { false; }', 0)
        self.code('f() { false; }; f', 1)
        self.code('f() { exit 3; }; (f)', 3)

    def test_outputs(self):
        self.code('x=$(false)', 1)
        self.code('x=$(true)$(test a b)', 2)
        self.code('x=$(false) y=$(true)', 0)
        self.code('x=$(false)$?', 1)
        self.code('$(exit 4)', 4)
        self.code('$(false) > /f', 1)
        self.code('echo "$(exit 6)" $?', 0, ' 6\n')
        self.code('false; x=$(echo a)', 0)
        self.code('x=$(exit 3); y=1', 0)
        self.code('for x in $(false); do true; done', 0)
        self.code('case $(false) in a) true;; esac', 0)

    def test_the_last_code_goes_along(self):
        self.gives('false; (echo $?; true); echo $?', '1\n0\n')
        self.gives('test a b; echo $(echo $?) $?', '2 0\n')
        self.gives('test a b; echo $? | cat', '2\n')
        self.gives('f() { echo $?; }; false; f', '1\n')
        self.gives('false; { echo $?; }', '1\n')
        self.gives('false; if echo $?; then echo $?; fi', '1\n0\n')
        self.gives('false; x=$?; echo $x $?', '1 0\n')
        self.gives('false; for x in $?; do echo $? $x; done', '1 1\n')
        self.gives('false; case $? in 1) echo $?;; esac', '1\n')
        self.gives('test a b\necho $? & wait', '2\n')


class WordTest(HostCase):
    def test_variables(self):
        self.gives('x=one; echo $x ${x}y "$x"', 'one oney one\n')
        self.gives('echo [$x]', '[]\n')
        self.gives('x="a  b"; echo $x; echo "$x"; y=$x; echo "$y"', 'a b\na  b\na  b\n')
        self.gives("x='a\nb'; echo $x; echo \"$x\"", 'a b\na\nb\n')
        self.gives('x=1; x=${x}2 y=$x; echo $x $y', '12 12\n')
        self.gives('x=; echo "[$x]"', '[]\n')
        self.gives('x="echo a"; $x b', 'a b\n')
        self.gives('x=a=b; echo $x', 'a=b\n')

    def test_assignments_before_a_command_do_nothing(self):
        self.gives('x=1; x=2 echo $x; echo $x', '1\n1\n')
        self.gives('x=$(echo told > /f) true; ls /', '')
        self.gives('x=2 $none; echo $x', '2\n')
        self.gives('f() { echo "[$x]"; }; x=2 f; x=3 :; echo "[$x]"', '[]\n[]\n')

    def test_quoted_words(self):
        self.gives("echo 'a  b' \"c  d\" e\\ \\ f", 'a  b c  d e  f\n')
        self.gives('echo "" a \'\'', ' a \n')
        self.gives('echo $none a "$none"', 'a \n')
        self.gives("echo '$x' \"\\$x\" \\$x", '$x $x $x\n')
        self.gives('"echo" a', 'a\n')
        self.gives('ec"ho" a', 'a\n')
        self.gives('\'if\' a', 'if: missing\n', 127)

    def test_sums(self):
        self.gives('x=5; echo $((x * 2)) $((x / 0)) $((y)) $((-x mod 3))', '10 0 0 1\n')
        self.gives('x=2147483647; echo $((x + 1)) $((x < 0))', '-2147483648 0\n')
        self.gives('x=$((1 + 2)); echo $((x == 3))', '1\n')
        self.gives('x=999999999999; echo $((x)); x=9999999999999; echo $((x))', f'{(999999999999 + 2 ** 31) % 2 ** 32 - 2 ** 31}\n0\n')

    def test_outputs(self):
        self.gives('echo $(echo a  b) "$(echo "a  b")"', 'a b a  b\n')
        self.gives("echo \"[$(echo a; echo; echo b; echo; echo)]\"", '[a\n\nb]\n')
        self.gives('echo "[$(echo)]" "[$(true)]" $(true)', '[] []\n')
        self.gives('x=$(echo a\necho b); echo "$x"; echo $x', 'a\nb\na b\n')
        self.gives('echo $(echo $(echo $(echo deep)))', 'deep\n')
        self.gives('echo "$(echo "$(echo "a  b")")"', 'a  b\n')
        self.gives('x=1; echo $(x=2; echo $x) $x', '2 1\n')
        self.gives('f() { echo in $1; }; echo $(f a; g() { echo b; }; g)', 'in a b\n')
        self.gives('f() { echo in $1; }; x=$(f b); echo $x; g=$(h() { :; }); h', 'in b\nh: missing\n', 127)
        self.gives('echo $(seq 1 300) | wc', '1 300 1092\n')
        self.gives("x=$(echo ' a '); echo \"[$x]\"", '[ a ]\n')
        self.gives('echo $(echo a)$(echo b) c$(echo d e)f', 'ab cd ef\n')

    def test_a_script_reads_what_the_shell_reads(self):
        self.gives('x=$(read y; echo "$y"); echo [$x]; read z; echo [$z]', '[one]\n[two]\n', entered='one\ntwo\n')

    def test_patterns(self):
        for name in ('a1', 'a2', 'b', '.c', 'x y', 'a*'):
            self.put('/' + name, '')
        self.files.make_folder('/d')
        self.put('/d/f', '')
        self.put('/d/.g', '')
        self.gives('echo *', 'a* a1 a2 b d x y\n')
        self.gives('echo a* ?', 'a* a1 a2 b d\n')
        self.gives('echo c* "a*" \'*\' a\\* .* ?c', 'c* a* * a* .c ?c\n')
        self.gives('echo */* d/.* /d/?', 'd/f d/.g /d/f\n')
        self.gives("for x in x* a'*'; do echo \"[$x]\"; done", '[x y]\n[a*]\n')
        self.gives('x="a? b*"; echo $x; echo "$x"', 'a* a1 a2 b\na? b*\n')
        self.gives('x=*; echo "$x"', '*\n')
        self.gives('echo $(echo "*")', 'a* a1 a2 b d x y\n')
        self.gives('cd d; echo *; echo ../a?', 'f\n../a* ../a1 ../a2\n')
        self.gives('echo hello > new; echo n*', 'new\n')
        self.gives('echo hello > n*; ls | grep n; cat "n*"', 'n*\nnew\nhello\n')
        self.gives('ec*o a', 'ec*o: missing\n', 127)

    def test_a_pattern_may_be_the_command(self):
        self.put('/echo', '')
        self.gives('ec?? a', 'a\n')
        self.gives('e*', '\n')

    def test_what_is_not_split(self):
        self.gives('x="a b"; echo told > $x; ls; cat "a b"', 'a b\ntold\n')
        self.gives('x="c d" y=$x; for z in "$y"; do echo [$z]; done', '[c d]\n')
        self.gives('x=$(echo a; echo b) y=$x; echo "$y"', 'a\nb\n')
        self.gives('x="a b"; case $x in "a b") echo whole;; esac', 'whole\n')
        self.gives('x="a b"; case "a b" in $x) echo whole;; esac', 'whole\n')
        self.gives('cat < $none', 'shell: not a file\n', 1)
        self.put('/f', '')
        self.gives('x=?; echo "$x"; case f in $x) echo f;; esac; case ? in f) echo g;; esac', '?\nf\n')

    def test_arguments(self):
        self.gives('f() { echo $# $1 $2 $9 "$10"; }; f; f a; f a "b c" d; f 1 2 3 4 5 6 7 8 9 10 11',
                   '0 0\n1 a a0\n3 a b c a0\n11 1 2 9 10\n')
        self.gives('echo $# [$1]', '0 []\n')

    def test_arguments_come_back(self):
        self.gives('f() { echo f $1 $#; if test $1 != c; then g $1$1 x; fi; echo f $1 $# $2; }; g() { echo g $1 $2 $#; f c; echo g $1 $2; }; '
                   'f a; echo [$1$2] $#', 'f a 1\ng aa x 2\nf c 1\nf c 1\ng aa x\nf a 1\n[] 0\n')
        self.gives('f() { g; echo $1 $#; }; g() { echo [$1] $#; }; f a b', '[] 0\na 2\n')
        self.gives('f() { (g x); echo $(g y) $1; g z | cat; }; g() { echo $1; }; f a', 'x\ny a\nz\n')

    def test_fields_then_redirects_then_assignments(self):
        self.gives('x=1; x=2 > /f$x; ls; echo $x', 'f1\n2\n')
        self.gives('echo $(ls) > /g; cat g', 'f1\n')
        self.gives('x=$(ls) > /h; echo $x', 'f1 g h\n')


class LoopTest(HostCase):
    def test_for(self):
        self.gives('for x in a "b c" $none "" d; do echo "[$x]"; done; echo $x', '[a]\n[b c]\n[]\n[d]\nd\n')
        self.gives('x="1 2"; for y in $x $((3)) $(echo 4 5); do echo $y; done', '1\n2\n3\n4\n5\n')
        self.gives('for x in a b; do for y in 1 2; do echo $x$y; done; done', 'a1\na2\nb1\nb2\n')
        self.gives('for x in a b; do x=c; done; echo $x', 'c\n')
        self.gives('x=old; for x in; do :; done; echo $x', 'old\n')
        self.gives('x="a b"; for y in $x; do x=z; echo $y; done', 'a\nb\n')

    def test_while(self):
        self.gives('x=0; while test $x -lt 3; do echo $x; x=$((x + 1)); done; echo end $x', '0\n1\n2\nend 3\n')
        self.gives('while read x; do echo "[$x]"; done', '[a b]\n[]\n[ c]\n', entered='a b\n\n c')
        self.gives('x=a; while echo $x; test $x != aaa; do x=a$x; done', 'a\naa\naaa\n')

    def test_case(self):
        self.gives('for x in abc b "" "*" xyz; do case $x in a*) echo 1;; ?|b) echo 2;; "") echo 3;; *z) echo 4;; esac; done', '1\n2\n3\n2\n4\n')
        self.gives('case "*" in "*") echo star;; esac; case x in "*") echo no;; *) echo yes;; esac', 'star\nyes\n')
        self.gives('case a in a) echo 1;; a) echo 2;; esac', '1\n')
        self.gives("case 'a b' in a\\ b) echo yes;; esac; x='*'; case q in \"$x\") echo no;; $x) echo any;; esac", 'yes\nany\n')
        self.gives('case .a in *) echo yes;; esac; case a/b in a*) echo yes;; esac', 'yes\nyes\n')

    def test_patterns_of_a_case_are_expanded_in_order(self):
        self.gives('case b in $(echo 1 >> /n; echo a)|$(echo 2 >> /n; echo b)|$(echo 3 >> /n)) cat n;; $(echo 4 >> /n)) :;; esac', '1\n2\n')

    def test_exit_ends_it_all(self):
        self.gives('while true; do for x in a b; do { exit 4; }; done; done; echo never', '', 4)
        self.gives('f() { while true; do exit; done; }; false; f; echo never', '', 0)


class FunctionTest(HostCase):
    def test_calls(self):
        self.gives('f() { echo $1; }; f a; f b', 'a\nb\n')
        self.gives('f() { x=$1; }; x=0; f 5; echo $x', '5\n')
        self.gives('f() { echo 1; }; f() { echo 2; }; f', '2\n')
        self.gives('f() { f() { echo 2; }; echo 1; }; f; f', '1\n2\n')
        self.gives('f', 'f: missing\n', 127)

    def test_calls_of_itself(self):
        self.gives('f() { case $1 in 0) echo end;; *) x=$1; echo $1; f $((x - 1)); echo $1;; esac; }; f 3', '3\n2\n1\nend\n1\n2\n3\n')

    def test_without_end(self):
        with self.assertRaises(StuckError):
            self.host.run('f() { f; }; f', most=3000)
        self.check_end()

    def test_with_redirects(self):
        self.gives('f() { echo a; nothing; read x; echo $x; }; f > /o 2> /e < /o; cat /o; echo; cat /e', 'a\na\n\nnothing: missing\n')

    def test_names_of_tools_and_of_what_is_built_in(self):
        self.gives('echo() { cat; }; echo x', 'entered', entered='entered')
        self.gives('cd() { echo $1; }; cd /none', '/none\n')
        self.gives('f=1; f() { echo $f; }; f', '1\n')

    def test_in_processes_of_their_own(self):
        self.gives('(f() { echo a; }; f); f', 'a\nf: missing\n', 127)
        self.gives('f() { echo a; } | true; f', 'f: missing\n', 127)
        self.gives('f() { echo a; } & wait; f', 'f: missing\n', 127)
        self.gives('f() { echo $x$1; }; x=1; (x=2; f a); f b | cat; f c & wait', '2a\n1b\n1c\n')


class ProcessTest(HostCase):
    def test_pipelines(self):
        self.gives('seq 1 20 | grep 1 | wc', '11 11 32\n')
        self.gives('echo a | { read x; echo [$x]; }; echo [$x]', '[a]\n[]\n')
        self.gives('echo a | (cat; echo b) | cat', 'a\nb\n')
        self.gives('x=1; x=2 | x=3; echo $x', '1\n')
        self.gives('true | cat', '')
        self.gives('for x in a b; do echo $x; done | while read y; do echo [$y]; done', '[a]\n[b]\n')
        self.gives('if true; then echo yes; fi | cat', 'yes\n')
        self.gives('echo a | exit 3 | cat', '')
        self.gives('nothing | cat; echo $?', 'nothing: missing\n0\n')
        self.gives('cat | cat', 'text', entered='text')

    def test_all_commands_of_a_pipeline_are_there_at_once(self):
        for size in (1, 2, 16):
            self.host.pipe_size = size
            self.gives('seq 1 100 | cat | cat | tail -1', '100\n')

    def test_pipelines_wait_for_all(self):
        self.gives('(seq 1 30 > /f; echo x) | true; tail -1 /f', '30\n', choices=(1,) * 200)
        self.gives('{ echo a | cat; } | { cat > /g; }; cat g', 'a\n')

    def test_only_the_first_reads_what_the_shell_reads(self):
        self.gives('cat | cat; cat', 'all\n', entered='all\n')

    def test_shells(self):
        self.gives('x=1; (x=2; echo $x); echo $x', '2\n1\n')
        self.gives('(exit 3); echo $?', '3\n')
        self.gives('(echo a; (echo b)) | cat', 'a\nb\n')
        self.gives('(echo a; echo b) > /f; cat f', 'a\nb\n')
        self.gives('(cat; read x; echo [$x]) < /f', 'a\nb\n[]\n')

    def test_groups(self):
        self.gives('x=1; { x=2; echo $x; }; echo $x', '2\n2\n')
        self.gives('{ echo a; echo b; } > /f; echo c; cat f', 'c\na\nb\n')
        self.gives('{ read x; read y; } < /f; echo $y$x', 'ba\n')
        self.gives('{ { echo in; } > /g; echo out; } > /h; cat g h', 'in\nout\n')
        self.gives('{ exit 3; }; echo never', '', 3)
        self.gives('{ exit 3; } > /f; echo never', '', 3)

    def test_background(self):
        self.gives('x=1; { x=2; echo $x > /f; } & wait; cat f; echo $x', '2\n1\n')
        self.gives('echo a > /f & wait; cat f', 'a\n')
        self.gives('(echo b > /f) &', '')
        self.assertEqual(self.text('/f'), 'b\n')
        self.gives('{ while read x; do echo $x; done; } & exit 5', '1\n2\n', 5, entered='1\n2\n')
        self.gives('echo a | cat > /f & wait; cat f', 'a\n')

    def test_a_script_waits_for_what_holds_its_pipe(self):
        self.gives('x=$(echo a & wait; echo b); echo $x', 'a b\n')
        self.gives('x=$({ seq 1 50; } &); echo $x | wc', '1 50 141\n')

    def test_wait(self):
        self.gives('(exit 3) & (exit 4) & wait; echo $?', '0\n')
        self.gives('wait; echo $?', '0\n')
        self.gives('false; wait', '')
        self.gives('for x in 1 2 3; do echo $x >> /f & done; wait; sort f', '1\n2\n3\n')
        self.gives('(echo a > /g; wait) & wait; cat g', 'a\n')


class BuiltInTest(HostCase):
    def setUp(self):
        super().setUp()
        self.files.make_folder('/d')
        self.files.make_folder('/d/e')
        self.put('/d/f', 'text\n')

    def test_cd(self):
        self.gives('cd d; cat f; cd e; ls ..; cd; ls; cd /d/e/..; cat f', 'text\ne\nf\nd\ntext\n')
        self.gives('cd d/; echo $?; cd .; cat f; cd ..; ls', '0\ntext\nd\n')
        self.gives('cd "d"; cd $none; ls', 'd\n')
        self.gives('cd d; echo x > new; mkdir g; ls', 'e\nf\ng\nnew\n')

    def test_cd_that_fails(self):
        self.gives('cd none; echo $?; cd d/f; echo $?; ls', 'cd: missing\n1\ncd: not a folder\n1\nd\n')
        self.gives('cd none 2> /dev/null || echo no', 'no\n')
        change_mode(self.files, '/d', 60)
        self.host.user = 3
        self.gives('cd d; ls d', 'cd: denied\ne\nf\n')
        self.host.user = 0
        self.gives('cd d; ls', 'e\nf\n')

    def test_cd_in_a_process_of_its_own(self):
        for script in ('(cd d)', 'cd d | true', 'x=$(cd d)', 'cd d & wait', 'true | cd d'):
            self.gives(script + '; ls', 'd\n')
        self.gives('{ cd d; } > /x; ls', 'e\nf\n')
        self.gives('f() { cd d; }; f; ls; echo $(ls ..) | cat', 'e\nf\nd x\n')
        self.gives('cd d; (ls; cd e; ls ..); ls | cat; ls & wait', 'e\nf\n' * 4)

    def test_a_shell_s_folder_is_in_use(self):
        self.gives('cd d/e; rmdir /d/e; cd ..; mv /d /x; rmdir e; ls', 'rmdir: busy\nmv: busy\nf\n')
        self.gives('(cd d); mv d x; ls', 'x\n')

    def test_exit(self):
        for word, code in (('0', 0), ('3', 3), ('255', 255), ('256', 0), ('300', 44), ('99999', 99999 % 256), ('00007', 7),
                           ('0000000099', 99), ('100000', 2), ('999999', 2), ('x', 2), ('""', 2), ('1x', 2), ('1.', 2), ('$none', 1),
                           ('" 1"', 2), ('9' * 50, 2), ('+1', 2)):
            self.gives(f'false; exit {word}; echo never', '', code)
        self.gives('test a b; exit', '', 2)
        self.gives('true; exit', '')
        self.gives('(exit 5); echo $?; exit 6', '5\n', 6)
        self.gives('echo $(exit 7)$?', '7\n')
        self.gives('x=3; exit $x', '', 3)

    def test_read(self):
        self.gives('read x; echo "$? [$x]"', '0 [ a  b ]\n', entered=' a  b \nc\n')
        self.gives('read; echo "$? [$REPLY]"', '0 [one]\n', entered='one\ntwo\n')
        self.gives('read x; read y; read z; echo "$? [$x$y$z]"', '1 [ab]\n', entered='a\nb')
        self.gives('read x; echo "$? [$x]"', '0 []\n', entered='\n')
        self.gives('read x; echo "$? [$x]"', '1 []\n')
        self.gives('read x; echo "$? [$x]"', '0 [a]\n', entered='a')
        self.gives('read x; cat', 'two\nthree', entered='one\ntwo\nthree')
        self.gives('read x < /d/f; echo $x; read x < /d/f; echo $x', 'text\ntext\n')
        self.gives('read x; echo "$x"', 'a\\b$HOME *\n', entered='a\\b$HOME *\n')

    def test_read_with_a_bad_name(self):
        for name in ('1', '1a', 'a-b', '"a b"', '""', '\\#', '$none.'):
            self.gives(f'read {name}; echo $?; cat', '2\nline\n', entered='line\n')

    def test_read_from_what_cannot_be_read(self):
        self.gives('{ read x; echo $?; } < /dev/null', '1\n')
        kernel = Kernel(self.files)
        table = kernel.console_table()
        table.close(0)
        process = kernel.process(kernel.start(ShellProgram(parse_script('read x; echo $?')), table))
        kernel.run(())
        self.assertEqual((kernel.console.written, process.code), ('read: not open\n1\n', 0))

    def test_nothing(self):
        self.gives(': a b $(echo c > /g); echo $?; cat g', '0\nc\n')
        self.gives('false; : > /h; echo $?; ls', '0\nd\ng\nh\n')


class RedirectTest(HostCase):
    def test_each_descriptor(self):
        self.gives('echo a > /f; cat < /f; echo b >> /f; cat f; echo c > f; cat f', 'a\na\nb\nc\n')
        self.gives('cat none 2> /e; cat e; echo x 2> e; cat e', 'cat: missing\nx\n')
        self.gives('{ nothing; cd /none; echo out; } 2> /e; cat e', 'out\nnothing: missing\ncd: missing\n')
        self.gives('echo 2>f', '\n')
        self.gives('echo a2>f; cat f', 'a2\n')

    def test_they_are_carried_out_in_order(self):
        self.gives('echo a > /x > /y; cat x; cat y', 'a\n')
        self.gives('echo a > /z < /none; echo $?; ls', 'shell: missing\n1\nx\ny\nz\n')
        self.gives('cat < /none > /w; ls', 'shell: missing\nx\ny\nz\n')
        self.gives('cat < x < y', 'a\n')
        self.gives('cat 2> /e < /none; echo $?; cat e', '1\nshell: missing\n')
        self.gives('cat < /none 2> /e2; ls', 'shell: missing\ne\nx\ny\nz\n')

    def test_words_of_faults(self):
        self.files.make_folder('/d')
        self.files.make_link('/l', 'none')
        self.put('/f', '')
        for script, fault in (('< none', 'missing'), ('< d', 'not a file'), ('> d', 'not a file'), ('>> d', 'not a file'),
                              ('> none/x', 'missing'), ('> f/x', 'not a folder'), ('< f/', 'not a folder'), ('2> d', 'not a file'),
                              ('> ' + 'n' * 31, 'bad name'), ('> l', 'exists'), ('> new/', 'not a folder'), ('> ""', 'not a file')):
            for before, after in (('echo', 'a'), ('', ''), (':', ''), ('cd', '/d'), ('exit', '7')):
                self.gives(f'{before} {script} {after}; echo $?', f'shell: {fault}\n1\n')
            for command in ('{ echo a; }', '(echo a)'):
                self.gives(f'{command} {script}; echo $?', f'shell: {fault}\n1\n')
            self.gives(f'f() {{ echo a; }}; f {script}; echo $?', f'shell: {fault}\n1\n')
        self.assertEqual(self.names(), ('d', 'f', 'l'))

    def test_denied(self):
        self.put('/f', 'text\n')
        change_mode(self.files, '/f', 48)
        self.put('/g', 'g\n')
        self.host.user = 5
        self.gives('cat < /f; echo a > /f; echo a >> /g; cat < /g', 'shell: denied\nshell: denied\nshell: denied\ng\n')
        self.host.user = 0
        self.gives('cat < /f; echo a > /f; cat f', 'text\na\n')

    def test_a_redirect_ends_with_its_command(self):
        self.gives('echo a > /f; echo b', 'b\n')
        self.gives('cd > /f; echo b; : < /none; cat', 'b\nshell: missing\nentered', entered='entered')
        self.gives('{ echo a; { echo b; } > /g; echo c; } > /f; cat f g', 'a\nc\nb\n')

    def test_redirects_alone(self):
        self.gives('> /f; ls; echo text > f; >> f; cat f; < f; > f; cat f', 'f\ntext\n')
        self.gives('< /none; echo $?', 'shell: missing\n1\n')
        self.gives('2> /e; ls', 'e\nf\n')

    def test_assignments_are_done_whatever_redirects_give(self):
        self.gives('x=1 > /none/f; echo $? $x', 'shell: missing\n1 1\n')
        self.gives('x=$(echo a) y=2 < /none; echo $? $x $y', 'shell: missing\n1 a 2\n')
        self.gives('x=1 > /f; echo $? $x', '0 1\n')
        self.gives('x=1; x=2 echo a > /none/f; echo $x', 'shell: missing\n1\n')

    def test_what_was_to_be_run_is_not(self):
        self.gives('mkdir /d > /none/f; exit 3 < /none; cd /d < /none; ls', 'shell: missing\nshell: missing\nshell: missing\n')
        self.gives('f() { echo a > /g; }; f < /none; { echo a > /g; } < /none; (echo a > /g) < /none; ls', 'shell: missing\n' * 3)

    def test_nothing(self):
        self.gives('echo a > /dev/null; cat < /dev/null; echo b >> /dev/null; nothing 2> /dev/null; cat none 2> /dev/null; ls',
                   'nothing: missing\n')

    def test_words_of_redirects(self):
        self.gives('x=f; echo a > /$x.$((1 + 1)); cat < "$(echo f.2)"', 'a\n')
        self.gives('echo a > $(echo b > /c; echo d); ls', 'c\nd\nf.2\n')

    def test_what_is_written_is_read_at_once(self):
        self.gives('echo one > /f; { read x; echo $x; } < /f > /g; cat g', 'one\n')

    def test_files_stay_as_long_as_they_are_open(self):
        self.gives('echo text > /f; { rm /f; cat; } < /f; ls', 'text\n')
        self.gives('{ rm /g; echo a; } > /g; ls', '')


class ProgramTest(HostCase):
    HELLO = '#code\nset r0 42\nsay r0\nset r0 3\nexit r0\n'

    def setUp(self):
        super().setUp()
        self.put('/prog', self.HELLO, mode=61)
        self.files.make_folder('/d')

    def test_run(self):
        self.gives('prog; echo $?', '42\n3\n')
        self.gives('/prog', '42\n', 3)
        self.gives('cd d; ../prog | cat; echo $?', '42\n0\n')
        self.gives('./prog a b > /f; echo $?; cat f', '3\n42\n')
        self.gives('x=$(/prog); echo $? $x', '3 42\n')
        self.gives('if prog; then echo yes; else echo no; fi', '42\nno\n')
        self.gives('prog & wait', '42\n')
        self.files.make_link('/l', 'prog')
        self.gives('l', '42\n', 3)

    def test_missing(self):
        for name in ('none', '/none', 'd/none', 'none/x'):
            self.gives(f'{name} a b; echo $?', f'{name}: missing\n127\n')
        self.gives('""; echo $?', ': not a file\n126\n')

    def test_what_cannot_be_run(self):
        self.put('/text', 'echo a\n', mode=61)
        self.put('/empty', '', mode=61)
        self.put('/wrong', '#code\nnothing\n', mode=61)
        self.put('/great', '#code\nset r0 2147483648\n', mode=61)
        self.put('/long', '#code\n' + '#' * 5000, mode=61)
        self.put('/late', '\n#code\n', mode=61)
        self.gives('d; echo $?', 'd: not a file\n126\n')
        self.gives('/; echo $?', '/: not a file\n126\n')
        self.gives('prog/x; echo $?', 'prog/x: not a folder\n126\n')
        for name in ('text', 'empty', 'wrong', 'great', 'late'):
            self.gives(f'{name}; echo $?', f'{name}: denied\n126\n')
        self.gives('long; echo $?', 'long: too large\n126\n')

    def test_denied(self):
        change_mode(self.files, '/prog', 60)
        self.gives('prog', '42\n', 3)
        self.host.user = 2
        self.gives('prog; echo $?', 'prog: denied\n126\n')
        self.host.user = 0
        change_mode(self.files, '/prog', 1)
        self.host.user = 2
        self.gives('prog; echo $?', '42\n3\n')

    def test_a_folder_that_is_denied_is_no_file(self):
        change_mode(self.files, '/d', 0)
        self.host.user = 2
        self.gives('d; echo $?', 'd: not a file\n126\n')

    def test_it_is_told_ahead_of_redirects(self):
        self.gives('none > /f 2> /e; echo $?; d > /f < none; echo $?; ls', 'none: missing\n127\nd: not a file\n126\nd\nprog\n')
        self.gives('none > $(echo a > /g; echo h); ls', 'none: missing\nd\nprog\n')
        self.gives('{ none; } 2> /e; cat e', 'none: missing\n')
        self.gives('none 2> /f | cat; (none) 2> /f; cat f', 'none: missing\nnone: missing\n')

    def test_a_name_that_is_expanded(self):
        self.gives('x=none; $x; "$x y"', 'none: missing\nnone y: missing\n', 127)
        self.gives('$(echo prog)', '42\n', 3)

    def test_faults(self):
        for name, text, code in (('div', 'div r0 r0 r0', 136), ('far', 'set r1 100\nload r0 r1', 139)):
            self.put('/' + name, '#code\n' + text, mode=61)
            self.gives(f'{name}; echo $?', f'{code}\n')
            self.gives(f'{name} | {name}', '', code)

    def test_input_and_output(self):
        self.put('/add', '#code\nback:\nask r0\nset r2 -1\nsame r2 r2 r0\njumpif r2 end\nadd r1 r1 r0\njump back\nend:\nsay r1\n', mode=61)
        for size in (1, 3, 16):
            self.host.pipe_size = size
            self.gives('seq 1 10 | add', '55\n')
            self.gives('seq 1 4 | add | add > /f; cat f; rm f', '10\n')
        self.gives('add < prog', '0\n')
        self.gives('add', '7\n', entered='3\n4\n')

    def test_forks(self):
        self.put('/fork', '#code\nset r5 7\nstore r0 r5\nfork r1\njumpif r1 parent\nset r6 9\nstore r0 r6\nload r7 r0\nsay r7\nexit r6\n'
                 'parent:\nwait r2\nload r7 r0\nsay r7\nsay r2\n', mode=61)
        for frames in (1, 2, 8):
            self.host.frames = frames
            self.gives('fork', '9\n7\n9\n')
            self.gives('fork | sort -r; fork > /f; cat f', '9\n9\n7\n9\n7\n9\n')
            self.gives('fork & wait; echo end', '9\n7\n9\nend\n')


class BrokenTest(HostCase):
    def test_no_reader(self):
        self.gives('seq 1 1000 | true; echo $?', '0\n')
        self.gives('{ seq 1 1000; echo $? > /c; } | true; cat c', '141\n')
        self.gives('{ seq 1 1000; echo $? > /c; } | head -1; cat c', '1\n141\n')

    def test_complaints_through_pipes(self):
        for size in (1, 5):
            self.host.pipe_size = size
            self.gives('x=$({ nothing; cat none; } 2> /e; cat e); echo "$x"', 'nothing: missing\ncat: missing\n')


class StepTest(HostCase):
    def test_a_shell_waits_for_its_programs(self):
        kernel = Kernel(self.files)
        number = kernel.start(ShellProgram(parse_script('echo a; echo b')), kernel.console_table())
        while kernel.alive() != []:
            kernel.step(kernel.ready()[-1])
        self.assertEqual(kernel.console.written, 'a\nb\n')
        self.assertNotIn(number, kernel.processes)

    def test_complaints_that_have_to_wait(self):
        for size in (1, 3):
            kernel = Kernel(self.files)
            pipe = Pipe(size)
            table = kernel.console_table()
            table.put(2, PipeEnd(pipe, True))
            kernel.start(ShellProgram(parse_script('nothing; cd /none; < none; : > none/x')), table)
            reader = kernel.console_table()
            reader.put(0, PipeEnd(pipe, False))
            kernel.start(make_tool(['cat']), reader)
            kernel.run(())
            self.assertEqual(kernel.console.written, 'nothing: missing\ncd: missing\nshell: missing\nshell: missing\n')

    def test_descriptors_of_outputs_are_closed(self):
        kernel = Kernel(self.files)
        process = kernel.process(kernel.start(ShellProgram(parse_script('x=$(:)$(:); y=$(:); z="$(:)"; { :; } > /f')), kernel.console_table()))
        most = 0
        while kernel.alive() != []:
            kernel.step(kernel.ready()[0])
            most = max(most, len(process.table.rows))
        self.assertEqual(most, 4)

    def test_the_program_s_code(self):
        for script, code in (('false', 1), ('true', 0), ('exit 9', 9), ('x=1', 0)):
            kernel = Kernel(self.files)
            program = ShellProgram(parse_script(script))
            process = kernel.process(kernel.start(program, kernel.console_table()))
            self.assertEqual(program.code, 0)
            kernel.run(())
            self.assertEqual((process.code, program.code), (code, code))

    def test_what_a_program_begins_with(self):
        kernel = Kernel(self.files)
        functions = {'f': parse_script('echo f $1')}
        program = ShellProgram(parse_script('echo $x $?; f $2'), {'x': 'one', '2': 'two'}, 5, functions)
        self.assertEqual(program.code, 5)
        kernel.start(program, kernel.console_table())
        kernel.run(())
        self.assertEqual(kernel.console.written, 'one 5\nf two\n')

    def test_two_programs_share_nothing(self):
        kernel = Kernel(self.files)
        for name in ('a', 'b'):
            kernel.start(ShellProgram(parse_script(f'f() {{ echo $x; }}; x={name}; f > /{name}; g || x=1')), kernel.console_table())
        kernel.run((0, 1) * 100)
        self.assertEqual((self.text('/a'), self.text('/b'), kernel.console.written), ('a\n', 'b\n', 'g: missing\n' * 2))

    def test_a_killed_shell_closes_all(self):
        for steps in range(60):
            kernel = Kernel(self.files)
            number = kernel.start(ShellProgram(parse_script(
                '{ echo a; { echo $(echo b; cat) > /g; } 2> /e; echo c | cat; } > /f')), kernel.console_table())
            for _ in range(steps):
                if number in kernel.processes and kernel.ready() != []:
                    kernel.step(kernel.ready()[0])
            if number in kernel.processes:
                kernel.kill(number)
            kernel.run(())
            self.assertEqual((kernel.processes, self.files.holding), ({}, {}), steps)

    def test_leave(self):
        kernel = Kernel(self.files)
        program = ShellProgram(parse_script('{ echo a; echo b; } > /f'))
        number = kernel.start(program, kernel.console_table())
        while self.names() == ():
            kernel.step(number)
        self.assertEqual(kernel.console.holders, 5)
        program.leave()
        self.assertEqual(kernel.console.holders, 2)
        program.leave()
        self.assertEqual(kernel.console.holders, 2)

    def test_begin(self):
        kernel = Kernel(self.files)
        program = ShellProgram(parse_script('echo a'))
        table = kernel.console_table()
        number = kernel.start(program, table)
        kernel.step(number)
        self.assertIsNone(program.begin(None, parse_script('echo b')))
        kernel.run(())
        self.assertEqual(kernel.console.written, 'b\na\n')


class TreeTest(HostCase):
    def test_what_scripts_leave(self):
        self.gives('mkdir a; cd a; echo text > b; ln b c; ln -s b d; chmod 70 b; mkdir e; mv c e/f', '')
        self.assertEqual(tree_of(self.files), (('a', 61, 0, ('folder', (
            ('b', 56, 0, 'text\n'), ('d', 61, 0, ('link', 'b')), ('e', 61, 0, ('folder', (('f', 56, 0, 'text\n'),)))))),))

    def test_packs(self):
        self.gives('mkdir a a/b; echo one > a/f; echo two > a/b/g; ln -s ../f a/b/l; chmod 40 a/f; pack a > p; mkdir c; unpack c p; '
                   'pack a | unpack d; mkdir d; pack a | unpack d; cat c/b/l; pack c | cmp p /dev/null; pack c | diff p p; '
                   'pack d > q; cmp p q && echo same', 'unpack: missing\n' * 4 + 'one\nsame\n')


if __name__ == '__main__':
    unittest.main()
