"""The row `bounds` of the interface."""

import unittest

from gapfill import bounds


class Bounds(unittest.TestCase):
    def test_words(self):
        self.assertEqual(bounds.PLAIN, "plain")
        self.assertEqual(bounds.WINDOWED, "windowed")

    def test_numbers(self):
        self.assertEqual((bounds.PAUSE, bounds.WIDE), (5, 8))
        self.assertEqual((type(bounds.PAUSE), type(bounds.WIDE)), (int, int))

    def test_signs(self):
        self.assertEqual(bounds.SIGNS, "abcdefghijklmnopqrstuvwxyz0123456789 =|,")
        self.assertEqual(len(set(bounds.SIGNS)), 40)


if __name__ == "__main__":
    unittest.main()
