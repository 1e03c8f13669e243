"""Point 6 and the interface's part on names, ranks and kinds."""

import unittest

from shellround.names import is_name, is_rank, other_kind

FIFTY = 10 ** 49 + 7
SIXTY = 10 ** 60 - 1
LETTERS = "abcdefghijklmnopqrstuvwxyz"
FIGURES = "0123456789"
SIGNS = [chr(code) for code in range(32, 127)] + ["\n"]
# Signs that Python itself takes for small letters or figures, but which no name has.
FAR_SIGNS = ["\u00e9", "\u00df", "\u00aa", "\u00b2", "\u0661", "\u0430", "\uff41", "\u0131"]
OTHER_SIGNS = [sign for sign in SIGNS + FAR_SIGNS + ["\t", "\r", "\0"] if sign not in LETTERS + FIGURES]


class NameTest(unittest.TestCase):
    def assert_name(self, text):
        with self.subTest(text=text[:40]):
            self.assertIs(is_name(text), True)

    def assert_no_name(self, text):
        with self.subTest(text=text[:40]):
            self.assertIs(is_name(text), False)

    def test_the_empty_text_is_none(self):
        self.assert_no_name("")

    def test_one_sign(self):
        for sign in LETTERS:
            self.assert_name(sign)
        for sign in FIGURES:
            self.assert_no_name(sign)
        for sign in OTHER_SIGNS:
            self.assert_no_name(sign)

    def test_ordinary_ones(self):
        for text in ("kula", "a1", "z9", "soulava", "mwali2", "a0b1c2", "necklace", "armring", "none"):
            self.assert_name(text)

    def test_at_most_twelve_signs(self):
        for many in range(1, 13):
            self.assert_name("a" * many)
            self.assert_name("z" + "9" * (many - 1))
        self.assert_name("abcdefghijkl")
        self.assert_name("a12345678901")
        self.assert_no_name("abcdefghijklm")
        self.assert_no_name("a123456789012")
        self.assert_no_name("a" * 40000)

    def test_a_figure_is_not_first(self):
        for figure in FIGURES:
            self.assert_no_name(figure + "ab")
            self.assert_name("a" + figure + "b")
            self.assert_name("ab" + figure)
            self.assert_name("abcdefghijk" + figure)

    def test_any_small_letter_at_any_place(self):
        for letter in LETTERS:
            self.assert_name(letter + "b1")
            self.assert_name("a" + letter + "1")
            self.assert_name("a1" + letter)

    def test_no_other_sign_at_any_place(self):
        for sign in OTHER_SIGNS:
            self.assert_no_name(sign + "ab")
            self.assert_no_name("a" + sign + "b")
            self.assert_no_name("ab" + sign)
            self.assert_no_name("abcdefghijk" + sign)
            self.assert_no_name("abcdefghijkl" + sign)
            self.assert_no_name(sign + sign)


class RankTest(unittest.TestCase):
    def test_ranks(self):
        for rank in (1, 2, 10, 500000, 999999, 1000000):
            with self.subTest(rank):
                self.assertIs(is_rank(rank), True)

    def test_no_ranks(self):
        for rank in (0, -1, -1000000, 1000001, 2000000, FIFTY, -FIFTY, SIXTY, -SIXTY):
            with self.subTest(rank):
                self.assertIs(is_rank(rank), False)


class KindTest(unittest.TestCase):
    def test_each_kind_has_the_other(self):
        self.assertEqual(other_kind("necklace"), "armring")
        self.assertEqual(other_kind("armring"), "necklace")

    def test_a_kind_that_was_put_together_is_the_same(self):
        # A text equal to a kind is that kind, whichever way it came about.
        self.assertEqual(other_kind("".join(["neck", "lace"])), "armring")
        self.assertEqual(other_kind("".join(["arm", "ring"])), "necklace")


if __name__ == "__main__":
    unittest.main()
