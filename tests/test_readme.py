import doctest
import unittest
from pathlib import Path

README = Path(__file__).resolve().parent.parent / "README.md"


class ReadmeTest(unittest.TestCase):
    def test_examples(self):
        told = doctest.testfile(str(README), module_relative=False, encoding="utf-8")
        self.assertGreater(told.attempted, 0)
        self.assertEqual(told.failed, 0)


if __name__ == "__main__":
    unittest.main()
