import doctest
import pathlib
import unittest

from tests.helpers import within

README = pathlib.Path(__file__).resolve().parent.parent / "README.md"


class ReadmeTest(unittest.TestCase):
    def test_its_examples(self):
        failed, tried = within(1000000, doctest.testfile, str(README), False)
        self.assertGreater(tried, 0)
        self.assertEqual(failed, 0)
