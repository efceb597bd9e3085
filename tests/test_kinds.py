import unittest

from dealtongue import kinds
from tests.samples import BIG, LANGUAGE_WORDS, odd_things


class Kinds(unittest.TestCase):
    def test_numbers(self):
        for thing in (0, 1, -1, BIG, -BIG):
            self.assertIs(kinds.is_number(thing), True)
        for thing in (True, False, None, "1", "", (1,), [1], {1: 1}):
            self.assertIs(kinds.is_number(thing), False)

    def test_days(self):
        for thing in (0, 1, 2999, 3000):
            self.assertIs(kinds.is_day(thing), True)
        for thing in (-1, 3001, BIG, -BIG, True, False, None, "3", (3,), [3], {3: 3}):
            self.assertIs(kinds.is_day(thing), False)

    def test_names(self):
        for thing in ("a", "z", "abcdefgh", "zzzzzzzz", "from", "all", "any", "share", "ends"):
            self.assertIs(kinds.is_name(thing), True)
        for thing in ("", "abcdefghi", "A", "aB", "a1", "a b", " a", "a ", "a\n", "`", "{", "a_b", "1"):
            self.assertIs(kinds.is_name(thing), False)
        for thing in (None, True, 1, ("a",), ["a"], {"a": 1}):
            self.assertIs(kinds.is_name(thing), False)

    def test_words_of_the_language_are_no_names(self):
        self.assertEqual(len(set(LANGUAGE_WORDS)), 35)
        for word in LANGUAGE_WORDS:
            with self.subTest(word):
                self.assertIs(kinds.is_name(word), False)
                self.assertIs(kinds.is_small_text(word), True)

    def test_odd_things_are_no_names(self):
        for thing in odd_things():
            self.assertIs(kinds.is_name(thing), False)
