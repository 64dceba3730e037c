import unittest

from spindlefit import limits


class Limits(unittest.TestCase):
    def test_most_listed_is_300(self):
        self.assertEqual(limits.MOST_LISTED, 300)
        self.assertIs(type(limits.MOST_LISTED), int)


if __name__ == "__main__":
    unittest.main()
