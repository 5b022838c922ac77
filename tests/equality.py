"""What the tests of equality share."""

import unittest


class EqualityCase(unittest.TestCase):
    """Equal and unlike, by both signs and both ways round."""

    def assert_same(self, one, other):
        self.assertIs(one == other, True)
        self.assertIs(other == one, True)
        self.assertIs(one != other, False)
        self.assertIs(other != one, False)

    def assert_unlike(self, one, other):
        self.assertIs(one == other, False)
        self.assertIs(other == one, False)
        self.assertIs(one != other, True)
        self.assertIs(other != one, True)
