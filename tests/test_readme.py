import doctest
import unittest
from pathlib import Path

README = Path(__file__).resolve().parent.parent / "README.md"


class Readme(unittest.TestCase):
    def test_its_examples(self):
        outcome = doctest.testfile(str(README), module_relative=False)
        self.assertGreater(outcome.attempted, 0)
        self.assertEqual(outcome.failed, 0)


if __name__ == "__main__":
    unittest.main()
