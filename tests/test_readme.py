"""README.md: its examples are what the program tells."""

import doctest
import pathlib
import unittest

README = pathlib.Path(__file__).resolve().parent.parent / "README.md"


class Readme(unittest.TestCase):

    def test_examples(self):
        told = doctest.testfile(str(README), module_relative=False)
        self.assertGreater(told.attempted, 10)
        self.assertEqual(told.failed, 0)
