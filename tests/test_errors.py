import unittest

from hoststack import errors

NAMES = ('DeviceError', 'JournalError', 'FileError', 'CheckError', 'PipeError', 'ProcessError', 'SpaceFault',
         'CodeError', 'ShellError', 'StuckError')


class ErrorsTest(unittest.TestCase):
    def test_host_error_is_a_value_error(self):
        self.assertEqual(errors.HostError.__bases__, (ValueError,))

    def test_all_stand_right_under_host_error(self):
        for name in NAMES:
            self.assertEqual(getattr(errors, name).__bases__, (errors.HostError,), name)

    def test_none_stands_under_another(self):
        for name in NAMES:
            for other in NAMES:
                if name != other:
                    self.assertFalse(issubclass(getattr(errors, name), getattr(errors, other)), (name, other))

    def test_there_are_no_others(self):
        found = [name for name, worth in vars(errors).items() if isinstance(worth, type)]
        self.assertEqual(sorted(found), sorted(NAMES + ('HostError',)))

    def test_word_of_a_file_error(self):
        for word in ('missing', 'no space', ''):
            error = errors.FileError(word)
            self.assertEqual(error.word, word)
            self.assertEqual(str(error), word)

    def test_others_take_a_text(self):
        for name in NAMES:
            with self.assertRaises(errors.HostError):
                raise getattr(errors, name)('why')


if __name__ == '__main__':
    unittest.main()
