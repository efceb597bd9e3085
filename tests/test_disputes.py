"""Promise 19: letters in dispute."""

import itertools
import unittest

from dealtongue.disputes import asked, readings
from dealtongue.errors import NoCondition, NoDay, NoLetters, NoLetterThere, NoOpen, NoVersions
from dealtongue.reckoner import State
from dealtongue.versions import reckoned_by
from tests.makers import made_versions
from tests.oracle import told_days_by, told_of
from tests.reckons import deal, said
from tests.samples import BIG, NO_DAYS, odd_things

GIVE = "duty give : ann must send ask to bob within 2 days after day 3"
ONE = deal(GIVE)
VERSIONS = [(0, ONE), (7, deal("duty other : ann must send ask to bob within 2 days after day 8", "end over : after day 9"))]
LETTERS = said("4 ask", "4.2 note", "5 cash 4", "9 ask")


class Readings(unittest.TestCase):
    maxDiff = None

    def test_of_none(self):
        told = readings(VERSIONS, LETTERS, [], 5)
        self.assertEqual(told, [((), reckoned_by(VERSIONS, LETTERS, 5))])

    def test_of_one(self):
        told = readings(VERSIONS, LETTERS, [(4, 1)], 9)
        self.assertEqual(told, [((), reckoned_by(VERSIONS, LETTERS[1:], 9)),
                                (((4, 1),), reckoned_by(VERSIONS, LETTERS, 9))])
        self.assertIsInstance(told[0][1], State)
        self.assertNotEqual(told[0][1], told[1][1])

    def test_each_choice_rising(self):
        one, two, three, four = (4, 1), (4, 2), (5, 1), (9, 1)
        self.assertEqual([row[0] for row in readings(VERSIONS, LETTERS, [two, one], 9)],
                         [(), (one,), (one, two), (two,)])
        self.assertEqual([row[0] for row in readings(VERSIONS, LETTERS, [three, one, two], 9)],
                         [(), (one,), (one, two), (one, two, three), (one, three), (two,), (two, three), (three,)])
        told = readings(VERSIONS, LETTERS, [four, two, three, one], 9)
        self.assertEqual(len(told), 16)
        choices = [choice for many in range(5) for choice in itertools.combinations((one, two, three, four), many)]
        self.assertEqual([row[0] for row in told], sorted(choices))
        for choice, state in told:
            letters = [letter for letter in LETTERS if letter[:2] in choice]
            self.assertEqual(told_of(state), told_days_by(VERSIONS, letters, 9)[-1])

    def test_letters_behind_the_last_day(self):
        told = readings(VERSIONS, LETTERS, [(9, 1)], 5)
        self.assertEqual([row[0] for row in told], [(), ((9, 1),)])
        self.assertEqual(told[0][1], told[1][1])

    def test_made_ones(self):
        for seed in range(2000, 2030):
            versions, letters = made_versions(seed)
            open_ones = [letter[:2] for letter in letters[:3]]
            for choice, state in readings(versions, letters, open_ones, 50):
                out = [one for one in open_ones if one not in choice]
                counting = [letter for letter in letters if letter[:2] not in out]
                self.assertEqual(told_of(state), told_days_by(versions, counting, 50)[-1])

    def test_what_is_told_is_the_askers_own(self):
        told = readings(VERSIONS, LETTERS, [(4, 1)], 9)
        told[0][1].things().clear()
        told.clear()
        self.assertEqual(len(readings(VERSIONS, LETTERS, [(4, 1)], 9)), 2)
        self.assertTrue(readings(VERSIONS, LETTERS, [(4, 1)], 9)[0][1].things())


class Asked(unittest.TestCase):
    def test_yes_no_and_open(self):
        for open_ones, day, condition, told in (
            ([], 5, ("had", "ask"), "yes"), ([], 3, ("had", "ask"), "no"),
            ([(4, 1)], 5, ("had", "ask"), "open"), ([(4, 1)], 5, ("broken", "give"), "open"),
            ([(4, 1)], 4, ("broken", "give"), "no"), ([(4, 1)], 6, ("not", ("broken", "give")), "open"),
            ([(4, 1)], 9, ("had", "ask"), "yes"), ([(4, 1), (9, 1)], 9, ("had", "ask"), "open"),
            ([(4, 1), (9, 1)], 9, ("ended",), "yes"), ([(4, 2), (5, 1)], 9, ("had", "back"), "no"),
            ([(4, 1), (4, 2)], 9, ("any", ("had", "note"), ("not", ("had", "note"))), "yes"),
        ):
            self.assertEqual(asked(VERSIONS, LETTERS, open_ones, day, condition), told, (open_ones, day, condition))

    def test_open_ones_that_make_no_difference(self):
        letters = LETTERS + [(6, 1, "eve", "ask", 0), (6, 2, "bob", "note", 3)]
        for condition, told in ((("had", "ask"), "yes"), (("broken", "give"), "no")):
            self.assertEqual(asked(VERSIONS, letters, [(6, 1), (6, 2)], 6, condition), told)

    def test_a_condition_of_the_text_in_force_on_the_last_day(self):
        for day, right, wrong in ((6, "give", "other"), (7, "other", "give"), (3000, "other", "give")):
            self.assertIn(asked(VERSIONS, LETTERS, [], day, ("owes", right)), ("yes", "no"))
            with self.assertRaises(NoCondition):
                asked(VERSIONS, LETTERS, [(4, 1)], day, ("owes", wrong))
        for thing in [("had", "nobody"), ("all", ("ended",)), None, True] + odd_things():
            with self.assertRaises(NoCondition):
                asked(VERSIONS, LETTERS, [], 9, thing)


class Refused(unittest.TestCase):
    def functions(self):
        return [readings, lambda *things: asked(*things, None), lambda *things: asked(*things, ("ended",))]

    def refused(self, kind, *things):
        for function in self.functions():
            with self.assertRaises(kind) as caught:
                function(*things)
        return caught.exception

    def test_no_versions_then_no_letters(self):
        for thing in [[], [(1, ONE)], [(0, None)]] + odd_things():
            self.refused(NoVersions, thing, (), (), None)
            self.refused(NoVersions, thing, LETTERS, [], 9)
        for thing in [tuple(LETTERS), LETTERS + LETTERS[:1]] + [odd for odd in odd_things() if odd != []]:
            self.refused(NoLetters, VERSIONS, thing, (), None)
            self.refused(NoLetters, VERSIONS, thing, [], 9)

    def test_no_open(self):
        letters = said(*[f"{day} ask" for day in range(1, 9)])
        for thing in [(), ((1, 1),), {(1, 1): True}, [(1, 1), (1, 1)], [(1, 1), (2, 1), (1, 1)],
                      [(day, 1) for day in (1, 2, 3, 4, 5)], [(1,)], [(1, 1, 1)], [[1, 1]], [1, 1], [()], [(1, True)],
                      [(True, 1)], [("1", 1)], [(1, "1")], ["ab"], [(None, 1)], [(1, 1), None], [(99, 9), (1, True)],
                      [([], 1)], [(1, {})]] + [odd for odd in odd_things() if odd != []]:
            for day in (9, None):
                self.refused(NoOpen, VERSIONS, letters, thing, day)
        self.assertEqual(len(readings(VERSIONS, letters, [(day, 1) for day in (1, 2, 3, 4)], 9)), 16)

    def test_no_letter_there_of_the_first(self):
        for open_ones, said_on, turn in (
            ([(4, 3)], 4, 3), ([(4, 1), (3, 1), (2, 1)], 3, 1), ([(9, 2), (0, 0)], 9, 2), ([(-1, 1)], -1, 1),
            ([(BIG, 1)], BIG, 1), ([(4, 2), (4, -BIG)], 4, -BIG),
        ):
            for day in (9, None, 3001):
                error = self.refused(NoLetterThere, VERSIONS, LETTERS, open_ones, day)
                self.assertEqual((error.said, error.turn), (said_on, turn))

    def test_no_day_then_no_condition(self):
        for day in NO_DAYS:
            self.refused(NoDay, VERSIONS, LETTERS, [(4, 1)], day)
        with self.assertRaises(NoCondition):
            asked(VERSIONS, LETTERS, [(4, 1)], 9, None)
