"""WIDE, is_name, is_label, atom_of."""

import unittest

from dimhouse.words import WIDE, atom_of, is_label, is_name

LETTERS = "abcdefghijklmnopqrstuvwxyz"
FIGURES = "0123456789"
# All signs of a text, the percent sign and some from beyond, which are of no word.
SIGNS = [chr(code) for code in range(128)] + ["\u00e9", "\u00b2", "\u0663", "\u00df", "\u0131"]


def at_each_place(sign, text):
    """The text with the sign in the place of each of its signs, in turn."""
    return [text[:place] + sign + text[place + 1:] for place in range(len(text))]


class Wide(unittest.TestCase):
    def test_wide(self):
        self.assertEqual(WIDE, 2 ** 40)
        self.assertIs(type(WIDE), int)


class Names(unittest.TestCase):
    def test_names(self):
        for text in ("a", "z", "ab", "abcdef", "zzzzzz", "aaaaaa", "load", "at", "if", "twins", LETTERS[:6], LETTERS[20:]):
            self.assertIs(is_name(text), True, text)

    def test_lengths(self):
        for length in range(12):
            self.assertIs(is_name("q" * length), 1 <= length <= 6, length)

    def test_each_sign_at_each_place(self):
        for sign in SIGNS:
            for length in (1, 3, 6):
                for text in at_each_place(sign, "b" * length):
                    self.assertIs(is_name(text), sign in LETTERS, repr(text))

    def test_no_names(self):
        for text in ("", "A", "aB", "Ab", "a1", "1a", "1", "a b", " a", "a ", "a\n", "\na", "a_b", "-a", "=", "abcdefg"):
            self.assertIs(is_name(text), False, repr(text))


class Labels(unittest.TestCase):
    def test_labels(self):
        for text in ("a", "0", "9", "r0", "r60", "00", "abcdefgh", "12345678", "a1b2c3d4", "1a", "at", "zzzzzzzz"):
            self.assertIs(is_label(text), True, text)

    def test_lengths(self):
        for length in range(14):
            self.assertIs(is_label("q" * length), 1 <= length <= 8, length)
            self.assertIs(is_label("7" * length), 1 <= length <= 8, length)

    def test_each_sign_at_each_place(self):
        for sign in SIGNS:
            for length in (1, 4, 8):
                for text in at_each_place(sign, "b" * length):
                    self.assertIs(is_label(text), sign in LETTERS + FIGURES, repr(text))

    def test_no_labels(self):
        for text in ("", "A", "a b", " a", "a ", "a-", "-1", "+1", "a_b", "abcdefghi", "123456789", "a\n"):
            self.assertIs(is_label(text), False, repr(text))


class Atoms(unittest.TestCase):
    def test_names_write_themselves(self):
        for word in ("a", "z", "abcdef", "load", "at", "end"):
            self.assertEqual(atom_of(word), word)

    def test_values(self):
        for value in (0, 1, 9, 10, 99, 100, 999999999999, 10 ** 12, WIDE - 2, WIDE - 1):
            told = atom_of(str(value))
            self.assertEqual(told, value)
            self.assertIs(type(told), int)

    def test_each_figure_alone(self):
        for value in range(10):
            self.assertEqual(atom_of(FIGURES[value]), value)

    def test_too_great(self):
        for value in (WIDE, WIDE + 1, 2 * WIDE, 9999999999999, 10 ** 13, 10 ** 14, 10 ** 99, int("1" * 14)):
            self.assertIsNone(atom_of(str(value)), value)

    def test_many_figures_are_no_value(self):
        self.assertIsNone(atom_of("1" * 5000))
        self.assertIsNone(atom_of("0" * 5000))

    def test_noughts_ahead(self):
        for word in ("00", "01", "007", "0000000000000", "0000000000001", "01099511627775", "0a"):
            self.assertIsNone(atom_of(word), word)

    def test_signs_ahead_and_behind(self):
        for word in ("-1", "+1", "-0", "+0", "1-", " 1", "1 ", "1_0", "1.0", "1e3", "0x1", "1\n", "--1", "=", "-a"):
            self.assertIsNone(atom_of(word), repr(word))

    def test_neither_name_nor_value(self):
        for word in ("", "A", "aB", "a1", "1a", "abcdefg", "a b", " a", "a ", "r10", "+", "=", "~"):
            self.assertIsNone(atom_of(word), repr(word))

    def test_each_sign_at_each_place_of_a_value(self):
        for sign in SIGNS:
            for word in at_each_place(sign, "1234"):
                fits = sign in FIGURES and word[0] != "0"
                self.assertEqual(atom_of(word), int(word) if fits else None, repr(word))

    def test_each_sign_alone(self):
        for sign in SIGNS:
            if sign in LETTERS:
                self.assertEqual(atom_of(sign), sign)
            elif sign not in FIGURES:
                self.assertIsNone(atom_of(sign), repr(sign))

    def test_asked_again(self):
        for word in ("abc", "12", "-1"):
            self.assertEqual(atom_of(word), atom_of(word))


if __name__ == "__main__":
    unittest.main()
