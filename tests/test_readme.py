"""The examples of README.md, which must print what it says."""

import doctest
import pathlib
import unittest

README = pathlib.Path(__file__).resolve().parent.parent / "README.md"


class TheReadme(unittest.TestCase):
    def test_its_examples(self):
        failed, tried = doctest.testfile(str(README), module_relative=False, encoding="utf-8")
        self.assertGreater(tried, 20)
        self.assertEqual(failed, 0)


if __name__ == "__main__":
    unittest.main()
