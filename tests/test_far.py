"""Promises 10 and 11 on far days: days on which nothing can happen aren't gone through, and all is told the same."""

import random
import unittest

from dealtongue.quicker import quick, quick_on, turnings
from dealtongue.reckoner import reckoned
from tests.plain import made_plain, plainly
from tests.reckons import days_gone_through, deal, said

NAMES = "abcdef"
SIX = (
    ("ann", "bob"), ((5, 6), ()), tuple((f"word{name}", "ann", None, None) for name in NAMES),
    tuple(("duty", f"d{name}", "ann", "bob", ("send", (f"word{name}",)), ("work", 30), ("every", 0, 7),
           ("not", ("before", 5)), False) for name in NAMES),
)


def told(state):
    return (state.things(), state.broken(), state.owed(), state.had())


class Far(unittest.TestCase):
    maxDiff = None

    def same(self, agreement, letters, days):
        expected = plainly(agreement, letters, max(days), days)
        for day in days:
            for function in (reckoned, quick):
                state = function(agreement, letters, day)
                self.assertEqual(told(state), expected[day])
                self.assertEqual((state.day, state.ended, state.fees(), state.put_by()), (day, None, [], {}))
                self.assertEqual(state.may(), sorted(word[0] for word in agreement[2]))

    def test_six_duties_by_weeks(self):
        self.same(SIX, [], [0, 6, 7, 14, 48, 49, 50, 55, 56, 57, 1000, 2942, 3000])
        letters = [(30, 1, "ann", "wordc", 0), (2000, 1, "ann", "worda", 0), (2001, 1, "ann", "worda", 0)]
        self.same(SIX, letters, [29, 30, 31, 35, 1999, 2000, 2001, 2002, 2004, 2043, 2044, 2050, 2942])

    def test_of_duties_that_days_and_steps_bring(self):
        seen = {}
        for seed in range(60):
            agreement, letters = made_plain(seed)
            some = random.Random(seed)
            days = sorted(some.sample(range(3001), 6)) + [some.randint(2900, 2990), 3000]
            self.same(agreement, letters, days)
            for thing in reckoned(agreement, letters, 3000).things():
                seen[thing[4]] = seen.get(thing[4], 0) + 1
        self.assertEqual(sorted(seen), ["done", "late", "open"])
        self.assertGreater(min(seen.values()), 3)

    def test_near_what_is_due(self):
        for seed in range(60):
            agreement, letters = made_plain(seed, late=True)
            dues = [thing[3] for thing in reckoned(agreement, letters, 3000).things()]
            days = {min(3000, max(0, due + more)) for due in dues for more in (-1, 0, 1)}
            self.same(agreement, letters, sorted(days | {2990, 3000}))

    def test_from_a_state_on(self):
        for seed in range(20):
            agreement, letters = made_plain(seed)
            expected = plainly(agreement, letters, 3000, (900, 1800))
            state = reckoned(agreement, letters, 100)
            for day in (900, 1800, 3000):
                state = quick_on(agreement, letters, state, day)
                self.assertEqual(told(state), expected[day])

    def test_turnings_are_the_days_that_tell_something_else(self):
        for seed in range(10):
            agreement, letters = made_plain(seed)
            expected = plainly(agreement, letters, 3000, range(3000))
            days = [day for day in range(3001) if expected[day] != expected.get(day - 1, ([], [], [], []))]
            self.assertEqual(turnings(agreement, letters, 3000), days)


class BusyDays(unittest.TestCase):
    def days(self, agreement, letters, last):
        """Tells the days that reckoned goes through."""
        return days_gone_through(reckoned, agreement, letters, last)[0]

    def test_six_duties_by_weeks(self):
        self.assertEqual(self.days(SIX, [], 2942), [5, 7, 14, 49, 56])
        self.assertEqual(self.days(SIX, [], 4), [])

    def test_steps_whose_condition_does_not_hold(self):
        give = "duty give : ann must send ask to bob within 2 days after every 1 from 0 while "
        self.assertEqual(self.days(deal(give + "not before 2900"), [], 3000), [2900, 2901, 2902, 2903])
        self.assertEqual(self.days(deal(give + "before 3"), [], 3000), [0, 1, 2, 3])
        self.assertEqual(self.days(deal(give + "had note"), said("70 note"), 3000), [70, 71, 72, 73, 74])
        self.assertEqual(self.days(deal(give + "ended"), [], 3000), [])
        self.assertEqual(self.days(deal(give + "( had note or not before 50 )"), said("48 note"), 3000),
                         [48, 49, 50, 51, 52])

    def test_clauses_that_free_or_end_by_steps(self):
        give = "duty give : ann must send ask to bob within 9 days after day 5"
        self.assertEqual(self.days(deal(give, "free spare : give after every 2 from 0 while before 4"), [], 3000),
                         [4, 5, 14])
        self.assertEqual(self.days(deal(give, "free spare : give after every 2 from 0 while owes give"), [], 3000),
                         [5, 6])
        self.assertEqual(self.days(deal(give, "end over : after every 2 from 0 while broken give"), [], 3000),
                         [5, 14, 16])
