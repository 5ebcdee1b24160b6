"""The examples of README.md give what it says."""

import doctest
import pathlib
import unittest

README = pathlib.Path(__file__).resolve().parent.parent / "README.md"


class ReadmeTest(unittest.TestCase):
    def test_examples(self):
        result = doctest.testfile(str(README), module_relative=False)
        self.assertGreater(result.attempted, 20)
        self.assertEqual(result.failed, 0)


if __name__ == "__main__":
    unittest.main()
