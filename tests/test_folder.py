import unittest

from hoststack.errors import CheckError, FileError
from hoststack.folder import check_name, folder_bytes, folder_from, joined_path, split_path
from hoststack.letters import LETTERS
from tests.helpers import word_of


class NameTest(unittest.TestCase):
    def test_names(self):
        for name in ('a', 'a' * 30, '...', '.a', '..a', 'a b', '-', '~', ' ', 'a.', '*?'):
            self.assertEqual(check_name(name), name)
        for letter in LETTERS:
            if letter not in '\n/.':
                self.assertEqual(check_name(letter), letter)

    def test_bad_names(self):
        for name in ('', '.', '..', '/', 'a/b', '/a', 'a/', 'a\nb', '\n', 'a' * 31, 'a' * 300):
            self.assertEqual(word_of(lambda: check_name(name)), 'bad name', name)

    def test_bad_texts(self):
        for name in ('%', 'a%b', 'a\tb', '\xe9'):
            self.assertEqual(word_of(lambda: check_name(name)), 'bad text', name)


class BytesTest(unittest.TestCase):
    def test_bytes(self):
        entries = {'b': 258, 'a': 3, 'a!': 1}
        self.assertEqual(folder_bytes(entries), (0, 3, 1, 65, 0, 1, 2, 65, 2, 1, 2, 1, 66))
        self.assertEqual(folder_bytes({}), ())

    def test_there_and_back(self):
        for entries in ({}, {'a': 1}, {'x' * 30: 65535, 'y': 0, '.': 5}, {f'name {n}': n for n in range(300)}):
            for form in (folder_bytes(entries), list(folder_bytes(entries))):
                self.assertEqual(folder_from(form), entries)
            names = list(folder_from(folder_bytes(entries)))
            self.assertEqual(names, sorted(names))

    def test_bad_text(self):
        self.assertEqual(word_of(lambda: folder_bytes({'a%': 1})), 'bad text')
        self.assertEqual(word_of(lambda: folder_from((0, 1, 1, 95))), 'bad text')

    def test_bytes_that_are_no_folder(self):
        whole = folder_bytes({'abc': 5, 'd': 6})
        for many in range(1, len(whole)):
            if many != 6:
                with self.assertRaises(CheckError):
                    folder_from(whole[:many])
        for data in ((0,), (0, 1), (0, 1, 1), (0, 1, 3, 66, 66), (0, 1, 1, 66, 0, 2, 1, 66), (0,) * 6):
            with self.assertRaises(CheckError):
                folder_from(data)
        for data in (whole + (0,), whole + whole):
            with self.assertRaises(CheckError):
                folder_from(data)

    def test_a_name_of_no_signs_is_read(self):
        self.assertEqual(folder_from((0, 1, 0)), {'': 1})
        self.assertEqual(folder_from((0, 1, 0, 0, 2, 1, 65)), {'': 1, 'a': 2})

    def test_a_file_error_is_no_check_error(self):
        with self.assertRaises(FileError):
            folder_from((0, 1, 1, 200))


class PathTest(unittest.TestCase):
    def test_split(self):
        rows = {'': (False, ()), '/': (True, ()), '.': (False, ()), '/.': (True, ()), '//': (True, ()),
                'a': (False, ('a',)), '/a': (True, ('a',)), 'a/': (False, ('a',)), 'a/.': (False, ('a',)),
                './a//b/./c': (False, ('a', 'b', 'c')), '/../a': (True, ('..', 'a')), '..': (False, ('..',)),
                '...': (False, ('...',)), '/a/../': (True, ('a', '..'))}
        for path, found in rows.items():
            self.assertEqual(split_path(path), found, path)

    def test_joined(self):
        self.assertEqual(joined_path(()), '/')
        self.assertEqual(joined_path(('a',)), '/a')
        self.assertEqual(joined_path(['a', 'b c']), '/a/b c')


if __name__ == '__main__':
    unittest.main()
