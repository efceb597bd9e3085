"""Promise 8: what is a letter, and what is a list of them."""

import unittest

from dealtongue.letters import are_letters, is_letter
from tests.samples import BIG, LANGUAGE_WORDS, odd_things

LETTER = (5, 7, "ann", "ask", 3)


def put(at, thing):
    """Tells the letter with a thing in one place."""
    return LETTER[:at] + (thing,) + LETTER[at + 1:]


def many(count):
    """So many letters, unlike by said and turn."""
    return [(at // 3, 1 + at % 3, "ann", "ask", 0) for at in range(count)]


class Letter(unittest.TestCase):
    def right(self, at, *things):
        for thing in things:
            self.assertIs(is_letter(put(at, thing)), True, thing)
            self.assertIs(are_letters([put(at, thing)]), True, thing)

    def wrong(self, at, *things):
        for thing in things:
            self.assertIs(is_letter(put(at, thing)), False, thing)
            self.assertIs(are_letters([put(at, thing)]), False, thing)
            self.assertIs(are_letters([(9, 9, "bob", "cash", 9), put(at, thing)]), False, thing)

    def test_said(self):
        self.right(0, 0, 1, 2999, 3000)
        self.wrong(0, -1, 3001, BIG, -BIG, True, False, None, "5", (5,), [5], {5: 5}, "")

    def test_turn(self):
        self.right(1, 1, 2, 98, 99)
        self.wrong(1, 0, -1, 100, BIG, -BIG, True, False, None, "7", (7,), [7], {7: 7}, "")

    def test_sender_and_word(self):
        for at in (2, 3):
            self.right(at, "a", "z", "abcdefgh", "zzzzzzzz", "all", "from", *LANGUAGE_WORDS)
            self.wrong(at, "", "abcdefghi", "A", "Ann", "a1", "a b", " a", "a ", "a\n", "`", "{", "_", "1", BIG, 1,
                       True,
                       None, ("ann",), ["ann"], {"ann": 1}, (), [])

    def test_coins(self):
        self.right(4, 0, 1, 999999999, 1000000000)
        self.wrong(4, -1, 1000000001, BIG, -BIG, True, False, None, "3", (3,), [3], {3: 3}, "")

    def test_all_bounds_at_once(self):
        self.assertIs(is_letter((0, 1, "a", "b", 0)), True)
        self.assertIs(is_letter((3000, 99, "duty", "abcdefgh", 1000000000)), True)

    def test_other_forms(self):
        for thing in odd_things() + [
            list(LETTER), LETTER[:-1], LETTER[1:], LETTER + (None,), LETTER + (0,), dict(enumerate(LETTER)),
            str(LETTER),
            (LETTER,), [LETTER], (5, 7, "ann", "ask"), LETTER[::-1], ((5, 7), "ann", "ask", 3), (None,) * 5, ([],) * 5,
        ]:
            self.assertIs(is_letter(thing), False, thing)
            self.assertIs(are_letters([thing]), False, thing)
            self.assertIs(are_letters([LETTER, thing]), False, thing)


class Letters(unittest.TestCase):
    def test_none_at_all(self):
        self.assertIs(are_letters([]), True)

    def test_how_many(self):
        self.assertIs(are_letters(many(59)), True)
        self.assertIs(are_letters(many(60)), True)
        self.assertIs(are_letters(many(61)), False)
        self.assertIs(are_letters(many(62)), False)
        self.assertIs(are_letters(many(600)), False)
        self.assertIs(are_letters([LETTER] * 61), False)

    def test_whatever_order(self):
        self.assertIs(are_letters(many(60)[::-1]), True)
        self.assertIs(are_letters(sorted(many(60), key=lambda letter: letter[1])), True)

    def test_two_of_one_said_and_turn(self):
        self.assertIs(are_letters([LETTER, LETTER]), False)
        for other in (put(2, "bob"), put(3, "cash"), put(4, 0), (5, 7, "x", "y", 0)):
            self.assertIs(are_letters([LETTER, other]), False)
            self.assertIs(are_letters(many(30) + [LETTER] + [other]), False)
        for other in (put(0, 6), put(1, 8), (7, 5, "ann", "ask", 3)):
            self.assertIs(are_letters([LETTER, other]), True)
        self.assertIs(are_letters([(0, 99, "a", "b", 0), (3000, 99, "a", "b", 0), (0, 1, "a", "b", 0)]), True)

    def test_what_is_no_list(self):
        for thing in (thing for thing in odd_things() if thing != []):
            self.assertIs(are_letters(thing), False, thing)
        for thing in ((), (LETTER,), tuple(many(3)), {LETTER: LETTER}, {}, "", LETTER, {0: LETTER}, None):
            self.assertIs(are_letters(thing), False, thing)

    def test_lists_within(self):
        self.assertIs(are_letters([[]]), False)
        self.assertIs(are_letters([[LETTER]]), False)
        self.assertIs(are_letters([list(LETTER)]), False)
