"""The examples in README.md are run, and must answer as they stand there."""

import doctest
import unittest
from pathlib import Path

README = Path(__file__).resolve().parent.parent / "README.md"


class Examples(unittest.TestCase):
    def test_examples_answer_as_written(self):
        found = doctest.testfile(str(README), module_relative=False, encoding="utf-8")
        self.assertEqual(found.failed, 0)
        self.assertGreater(found.attempted, 0)


if __name__ == "__main__":
    unittest.main()
