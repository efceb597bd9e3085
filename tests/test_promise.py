"""Promise 4: what is told is what the plain reckoning makes, day by day, in whatever order letters are handed in."""

import random
import unittest

from dealtongue.agreements import first_wrong
from dealtongue.letters import are_letters
from dealtongue.quicker import quick, turnings
from dealtongue.reckoner import reckoned
from dealtongue.texts import read_agreement, show_agreement
from tests.makers import made
from tests.oracle import told_days, told_of

DAYS = (0, 1, 2, 5, 9, 14, 22, 31, 43, 59, 60, 75)


class Promise(unittest.TestCase):
    maxDiff = None

    def test_what_is_made_is_right(self):
        for seed in range(300):
            agreement, letters = made(seed)
            self.assertIsNone(first_wrong(agreement))
            self.assertTrue(are_letters(letters))

    def test_as_a_second_reckoner_tells(self):
        seen = {}
        for seed in range(1000, 1150):
            agreement, letters = made(seed)
            told = told_days(agreement, letters, DAYS[-1])
            for day in DAYS:
                self.assertEqual(told_of(reckoned(agreement, letters, day)), told[day], (seed, day))
                self.assertEqual(told_of(quick(agreement, letters, day)), told[day], (seed, day))
            for thing in told[-1]["things"]:
                seen[thing[4]] = seen.get(thing[4], 0) + 1
            for name in ("broken", "fees", "put_by", "owed", "had"):
                seen[name] = seen.get(name, 0) + len(told[-1][name])
            seen["ended"] = seen.get("ended", 0) + (told[-1]["ended"] is not None)
        # Of all that may happen enough did.
        for name in ("open", "late", "done", "freed", "broken", "fees", "put_by", "owed", "had", "ended"):
            self.assertGreater(seen[name], 10, name)

    def test_in_whatever_order_letters_are_handed_in(self):
        some = random.Random(7)
        for seed in range(60):
            agreement, letters = made(seed)
            told = told_of(reckoned(agreement, sorted(letters), 60))
            turned = turnings(agreement, sorted(letters), 60)
            for _ in range(3):
                some.shuffle(letters)
                self.assertEqual(told_of(reckoned(agreement, letters, 60)), told)
                self.assertEqual(told_of(quick(agreement, letters, 60)), told)
                self.assertEqual(turnings(agreement, letters, 60), turned)
            self.assertEqual(told_of(reckoned(agreement, sorted(letters, reverse=True), 60)), told)

    def test_of_an_agreement_that_was_written_and_read(self):
        for seed in range(60):
            agreement, letters = made(seed)
            again = read_agreement(show_agreement(agreement))
            self.assertEqual(reckoned(again, letters, 60), reckoned(agreement, letters, 60))

    def test_letters_behind_the_last_day_change_nothing(self):
        for seed in range(60):
            agreement, letters = made(seed)
            for day in (0, 20, 59):
                ahead = [letter for letter in letters if letter[0] <= day]
                self.assertEqual(reckoned(agreement, letters, day), reckoned(agreement, ahead, day))
                self.assertEqual(quick(agreement, letters, day), quick(agreement, ahead, day))
