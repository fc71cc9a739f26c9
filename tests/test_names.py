import unittest

from pulledout.names import is_integer, is_name

NO_TEXTS = (None, True, 1, 0, 1.5, b"gone", ("gone",), ["g"], {"gone": 1}, {"gone"}, object(), str)


class Names(unittest.TestCase):
    def test_one_to_eight_lowercase_letters(self):
        for text in ("a", "z", "gone", "abcdefgh", "mnopqrst", "uvwxyz", "zzzzzzzz"):
            self.assertIs(is_name(text), True, text)

    def test_each_lowercase_letter_alone(self):
        for letter in "abcdefghijklmnopqrstuvwxyz":
            self.assertIs(is_name(letter), True, letter)

    def test_no_letter_and_too_many(self):
        for text in ("", "abcdefghi", "a" * 9, "a" * 20000):
            self.assertIs(is_name(text), False, text[:20])

    def test_every_other_sign(self):
        for code in list(range(32, 97)) + list(range(123, 127)) + [9, 10]:
            sign = chr(code)
            for text in (sign, sign + "a", "a" + sign, "ab" + sign + "cd", "abcdefg" + sign):
                self.assertIs(is_name(text), False, repr(text))

    def test_capitals(self):
        for text in ("A", "Gone", "goNe", "gonE", "GONE"):
            self.assertIs(is_name(text), False, text)

    def test_letters_beyond_z(self):
        for text in ("\u00e9", "caf\u00e9", "\u00df", "\u03b1"):
            self.assertIs(is_name(text), False, repr(text))

    def test_no_texts(self):
        for value in NO_TEXTS:
            self.assertIs(is_name(value), False, repr(value))

    def test_by_name(self):
        self.assertIs(is_name(value="gone"), True)


class Integers(unittest.TestCase):
    def test_bounds_belong(self):
        for lowest, highest in ((0, 8), (1, 100000), (-3, -1), (-2, 2), (5, 5)):
            for value in (lowest, (lowest + highest) // 2, highest):
                self.assertIs(is_integer(value, lowest, highest), True, (value, lowest, highest))

    def test_beyond_the_bounds(self):
        for lowest, highest in ((0, 8), (1, 100000), (-3, -1), (-2, 2), (5, 5)):
            for value in (lowest - 1, highest + 1, lowest - 10 ** 59, highest + 10 ** 59):
                self.assertIs(is_integer(value, lowest, highest), False, (value, lowest, highest))

    def test_none_between(self):
        for value in (2, 3, 4):
            self.assertIs(is_integer(value, 4, 2), False)

    def test_bools(self):
        for value in (True, False):
            self.assertIs(is_integer(value, 0, 1), False, value)
            self.assertIs(is_integer(value, -5, 5), False, value)

    def test_large_ones(self):
        large = 10 ** 59
        self.assertIs(is_integer(large, 0, large), True)
        self.assertIs(is_integer(large + 1, 0, large), False)

    def test_other_kinds(self):
        for value in (None, "", "1", b"1", (1,), [1], {1: 1}, {1}, 1.0, 1j, object(), int):
            self.assertIs(is_integer(value, 0, 8), False, repr(value))

    def test_by_name(self):
        self.assertIs(is_integer(highest=8, lowest=0, value=8), True)
        self.assertIs(is_integer(9, highest=8, lowest=0), False)


if __name__ == "__main__":
    unittest.main()
