"""The bounds of the interface."""

import unittest

from coinlanes import bounds


class BoundsTest(unittest.TestCase):
    def test_values(self):
        self.assertEqual(bounds.WAIT, 6)
        self.assertEqual(bounds.GAP, 2)
        self.assertEqual(bounds.FEE, (1, 10))
        self.assertEqual(bounds.BOUND, 20)

    def test_kinds(self):
        for number in (bounds.WAIT, bounds.GAP, bounds.BOUND, *bounds.FEE):
            self.assertIs(type(number), int)
        self.assertIs(type(bounds.FEE), tuple)


if __name__ == "__main__":
    unittest.main()
