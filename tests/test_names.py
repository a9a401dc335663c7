"""Point 2: what a whole number is, what a name is; what numbers there are of so many."""

import unittest

from namepaths.names import is_name, is_place, is_whole

NO_TEXTS = (None, True, False, 0, 7, 1.5, b"up", ["u", "p"], ("up",), {"up": 1}, {"up"}, object(), len, str)


class Whole(unittest.TestCase):
    def test_whole_numbers(self):
        for number in (0, 1, -1, 42, -42, 10 ** 3999, -(10 ** 3999)):
            self.assertIs(is_whole(number), True)

    def test_truths_are_none(self):
        self.assertIs(is_whole(True), False)
        self.assertIs(is_whole(False), False)

    def test_other_things_are_none(self):
        for thing in (None, 1.0, 2j, "1", "", b"1", [1], (1,), {1: 1}, {1}, object(), int, float("nan")):
            self.assertIs(is_whole(thing), False, thing)


class Names(unittest.TestCase):
    def test_names(self):
        for text in ("a", "z", "up", "allon", "abcdefgh", "zzzzzzzz"):
            self.assertIs(is_name(text), True, text)

    def test_every_small_letter(self):
        for letter in "abcdefghijklmnopqrstuvwxyz":
            self.assertIs(is_name(letter), True, letter)

    def test_no_letter_and_nine(self):
        self.assertIs(is_name(""), False)
        self.assertIs(is_name("abcdefghi"), False)
        self.assertIs(is_name("a" * 100000), False)

    def test_signs_beside_a_and_z(self):
        for sign in ("`", "{", "@", "[", "A", "Z"):
            self.assertIs(is_name(sign), False, sign)

    def test_wrong_signs_at_each_place(self):
        for sign in ("A", "Z", "0", "9", " ", "\n", "\t", "\0", ".", "-", "_", "'",
                     "\u00e4", "\u00df", "\u0131", "\u0430", "\u00aa", "\uff41", "\u0661", "\U0001d41a", "e\u0301"):
            for text in (sign, "up" + sign, sign + "up", "u" + sign + "p"):
                self.assertIs(is_name(text), False, repr(text))

    def test_things_that_are_no_text(self):
        for thing in NO_TEXTS:
            self.assertIs(is_name(thing), False, thing)


class Places(unittest.TestCase):
    def test_numbers_there_are(self):
        for many in (0, 1, 2, 40):
            for number in (-41, -2, -1, 0, 1, 2, 39, 40, 41, 10 ** 3999, -(10 ** 3999)):
                self.assertIs(is_place(number, many), number in range(many))

    def test_truths_are_none(self):
        self.assertIs(is_place(True, 2), False)
        self.assertIs(is_place(False, 2), False)


if __name__ == "__main__":
    unittest.main()
