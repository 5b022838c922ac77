"""Names and numbers as they are written: promises 2 and 7."""

import string
import unittest

from unitwants.words import is_name, number_in


class Names(unittest.TestCase):
    def test_names(self):
        for word in (*string.ascii_lowercase, "ab", "abcdefgh", "zzzzzzzz"):
            self.assertIs(is_name(word), True)

    def test_lengths(self):
        self.assertEqual([is_name("a" * size) for size in range(11)], [False] + [True] * 8 + [False] * 2)
        self.assertIs(is_name("a" * 2000), False)

    def test_other_signs(self):
        for at in range(256):
            sign = chr(at)
            if sign not in string.ascii_lowercase:
                for word in (sign, "a" + sign, sign + "a", "a" + sign + "b"):
                    self.assertIs(is_name(word), False, word)


class Numbers(unittest.TestCase):
    def test_numbers(self):
        for number in (0, 1, 9, 10, 100, 101, 999999, 10 ** 6, 9999999):
            self.assertEqual(number_in(str(number)), number)
            self.assertIs(type(number_in(str(number))), int)

    def test_others(self):
        for word in ("", " ", "00", "01", "007", "+1", "-1", "-0", "1 ", " 1", "1_0", "1.0", "1e3", "a", "0x1", "1\n",
                     "\n1", "10000000", "9" * 60, "0" * 60, "9" * 5000, "\u0661", "\u00b2"):
            self.assertIsNone(number_in(word), word)


if __name__ == "__main__":
    unittest.main()
