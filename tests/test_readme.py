"""The examples of README.md, one after another."""

import contextlib
import io
import pathlib
import re
import unittest

README = pathlib.Path(__file__).resolve().parent.parent / 'README.md'


class ReadmeTest(unittest.TestCase):
    def test_examples(self):
        told = io.StringIO()
        with contextlib.redirect_stdout(told):
            exec('\n'.join(re.findall(r'```python\n(.*?)```', README.read_text(), re.S)), {})
        lines = told.getvalue().split('\n')
        self.assertEqual(lines[:6], ['9 81', '4 16', 'nothing: missing', 'code 127', ' 0', '6 12 35'])
        tree, report, deeds, *lines = lines[7:]
        self.assertIn(tree, README.read_text())
        self.assertEqual((report, deeds), ("((('file', 1), ('folder', 2)), 3, 2)", '()'))
        self.assertEqual(lines, ['make /notes', 'make /notes/old', '', '66 15', '', 'b', 'b', 'a', '',
                                 '[1, 1, 2, 2, 1, 1] 4 told', '', ''])


if __name__ == '__main__':
    unittest.main()
