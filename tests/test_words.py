"""is_name [2], with the keywords of [20]."""

import unittest

from innerasks.words import is_name
from samples import NO_TEXTS

KEYWORDS = (
    "all and any as by case coalesce count cross desc distinct else end except exists first from full group having "
    "in inner intersect is join least left most not null on one or order select sum then union when where"
).split()


class IsName(unittest.TestCase):
    def check(self, expected, *things):
        for thing in things:
            self.assertIs(expected, is_name(thing), thing)

    def test_letters(self):
        self.check(True, "a", "z", "x", "ab", "abcdefghijk", "abcdefghijkl", "zzzzzzzzzzzz", "t", "name")
        self.check(False, "", "abcdefghijklm", "a" * 13, "a" * 1000)

    def test_every_letter(self):
        for letter in "abcdefghijklmnopqrstuvwxyz":
            self.check(True, letter, letter * 12, "x" + letter)
            self.check(False, letter.upper(), "x" + letter.upper(), letter.upper() + "x")

    def test_keywords(self):
        self.assertEqual(40, len(KEYWORDS))
        self.check(False, *KEYWORDS)

    def test_keywords_with_a_letter_more(self):
        for word in KEYWORDS:
            longer = [word + "x", "x" + word]
            self.check(True, *[text for text in longer if text not in KEYWORDS])

    def test_keywords_with_a_letter_less(self):
        for word in KEYWORDS:
            for shorter in (word[1:], word[:-1]):
                self.check(shorter not in KEYWORDS, shorter)

    def test_words_that_are_no_keywords(self):
        self.check(True, "like", "outer", "right", "min", "max", "true", "false", "table", "insert", "selfs", "sel")

    def test_self(self):
        self.check(False, "self")
        self.check(True, "elf", "sel", "selfx", "xself")

    def test_other_characters(self):
        self.check(False, "A", "aB", "Select", "SELF", "a1", "1a", "1", "a_b", "_", "a b", " a", "a ", "a\n", "\n")
        self.check(False, "a.b", "a-b", "a'", ":a", "`", "{", "a{", "é", "ß", "ab\u00aa", "\u0430", "ａ", "a\u0301")

    def test_no_texts(self):
        self.check(False, *NO_TEXTS, b"a", 1.5)


if __name__ == "__main__":
    unittest.main()
