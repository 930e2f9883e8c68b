"""The example of the README is true."""

import doctest
import pathlib
import unittest

README = pathlib.Path(__file__).resolve().parent.parent / "README.md"


class ReadmeTest(unittest.TestCase):

    def test_example(self):
        result = doctest.testfile(str(README), module_relative=False)
        self.assertGreater(result.attempted, 0)
        self.assertEqual(0, result.failed)
