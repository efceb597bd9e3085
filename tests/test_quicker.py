"""Promise 14: the quick reckoner tells what the plain one tells; on which days something turns."""

import unittest

from dealtongue.errors import NoAgreement, NoDay, NoLetters
from dealtongue.quicker import quick, quick_on, turnings
from dealtongue.reckoner import State, reckoned
from tests.makers import made
from tests.oracle import Oracle, told_days, told_of
from tests.reckons import Refuses, days_gone_through, deal, rested, said
from tests.test_state import WHOLE

TURNING = ("things", "broken", "fees", "may", "had", "put_by", "ended")

# Agreements over hundreds of days: steps, late things whose fees grow for long, coins put by that go to them.
RENT = (
    "duty rent : ann must pay 30 coins to bob within 10 work after every 30 from 5",
    "duty fix : bob must send note to ann within 3 days after letter ask",
    "fee slow : 1 at most 40 for rent",
    "fee dear : 7 at most 1000000000 for fix",
    "free spare : rent after every 45 from 100 while broken fix",
    "end over : after day 700",
)
RENT_LETTERS = said("7 cash 100", "33 ask", "39 note", "150 ask", "310 back 50", "400 note", "401 ask", "600 cash 500",
                    "650 back 2000", "650.2 note", "699 cash 40", "701 ask", "720 back 3")
WITH_REST = ((5, 6), (15, 35, 36, 700))
CASES = (
    (rested(WITH_REST, *RENT), RENT_LETTERS),
    (rested(WITH_REST, *RENT), []),
    (deal("duty give : ann must send ask to bob within 1 days after every 60 from 59 stays",
          "fee slow : 1 at most 3000 for give",
          "fee fast : 999 at most 1000 for give",
          "duty more : ann must pay 9 coins to bob within 30 work after broken give",
          "fee late : 5 at most 23 for more"),
     said("1 cash 500", "300 ask", "301 ask", "302.1 cash 30", "302.2 cash 900")),
    (deal("duty give : ann must send ask to bob within 30 days after every 1 from 0",
          "free spare : give after every 7 from 200", "end over : after every 1 from 350 while before 351"),
     said("5 ask", "99 ask")),
    (deal("end over : after every 60 from 0 while not before 200"), said("400 ask")),
    (deal("duty one : ann must pay 5 coins to bob within 2 days after done one",
          "duty two : ann must pay 5 coins to bob within 1 days after every 50 from 1",
          "duty three : ann must pay 2 coins to bob within 1 days after broken two"),
     said("1 cash 4", "55 cash 1", "101 cash 100", "160 cash 3")),
)


def turning(told):
    """Tells of what is told that by which a day turns."""
    return [told[name] for name in TURNING]


class Quick(unittest.TestCase):
    def same(self, agreement, letters, day):
        one, other = quick(agreement, letters, day), reckoned(agreement, letters, day)
        self.assertEqual(told_of(one), told_of(other))
        self.assertTrue(one == other)

    def test_day_by_day(self):
        for seed in range(100, 130):
            agreement, letters = made(seed)
            for day, told in enumerate(told_days(agreement, letters, 70)):
                self.assertEqual(told_of(quick(agreement, letters, day)), told)
            for day in (0, 11, 25, 40, 70):
                self.same(agreement, letters, day)

    def test_over_hundreds_of_days(self):
        for agreement, letters in CASES:
            for day, told in enumerate(told_days(agreement, letters, 760)):
                self.assertEqual(told_of(quick(agreement, letters, day)), told)
            for day in (99, 100, 300, 700, 2000, 2999, 3000):
                self.same(agreement, letters, day)

    def test_near_day_3000(self):
        whole = rested(((0, 3), (2990, 2998, 3000)),
                       "duty give : ann must send ask to bob within 4 work after every 3 from 2980",
                       "duty more : ann must pay 9 coins to bob within 2 days after broken give",
                       "fee slow : 2 at most 9 for give", "free spare : give after letter note",
                       "end over : after day 3000")
        letters = said("2984 cash 3", "2989 ask", "2993 note", "2994 cash 2", "3000 cash 5")
        for day in range(2975, 3001):
            self.same(whole, letters, day)
            self.same(whole, [], day)

    def test_a_state_is_told(self):
        self.assertIsInstance(quick(WHOLE, [], 5), State)
        self.assertIsInstance(quick_on(WHOLE, [], quick(WHOLE, [], 5), 6), State)
        self.assertIsInstance(reckoned(WHOLE, [], 5), State)

    def test_holds(self):
        for seed in range(40, 60):
            agreement, letters = made(seed)
            conditions = [word[3] for word in agreement[2] if word[3] is not None]
            for day in (0, 9, 30, 61):
                for condition in conditions:
                    self.assertIs(quick(agreement, letters, day).holds(condition),
                                  reckoned(agreement, letters, day).holds(condition))


class BusyDays(unittest.TestCase):
    """Days on which no more happens than that fees grow aren't gone through."""

    def days(self, agreement, letters, last):
        """Tells the days that quick goes through."""
        found, state = days_gone_through(quick, agreement, letters, last)
        self.assertEqual(told_of(state), told_of(reckoned(agreement, letters, last)))
        return found

    def test_days_that_are_named_or_due(self):
        whole = deal("duty give : ann must send ask to bob within 3 days after day 4",
                     "fee slow : 2 at most 500 for give")
        self.assertEqual(self.days(whole, [], 3000), [4, 7])
        self.assertEqual(self.days(whole, [], 6), [4])
        self.assertEqual(self.days(whole, [], 3), [])
        self.assertEqual(self.days(whole, said("2 note", "5 ask", "5.2 note", "90 note 3"), 3000), [2, 4, 5, 90])
        self.assertEqual(self.days(whole, said("300 ask", "400 cash 3"), 350), [4, 7, 300])

    def test_days_of_the_words_conditions(self):
        parties, rest, words, clauses = deal("end over : after day 3000 while before 50")
        words += (("more", "bob", None, ("not", ("before", 70))),)
        self.assertEqual(self.days((parties, rest, words, clauses), [], 2999), [70])

    def test_steps_where_nothing_can_come_of_them(self):
        whole = deal("duty give : ann must send ask to bob within 30 days after every 1 from 0",
                     "fee slow : 2 at most 500 for give")
        self.assertEqual(self.days(whole, [], 3000), [0, 1, 30, 31])
        self.assertEqual(self.days(whole, said("50 ask"), 3000), [0, 1, 30, 31, 50, 51, 81])
        whole = deal("duty give : ann must send ask to bob within 30 days after every 1 from 0",
                     "free spare : give after every 50 from 500")
        self.assertEqual(self.days(whole, [], 549), [0, 1, 30, 31, 500, 501, 530, 531])
        whole = deal("free spare : give after every 1 from 0",
                     "duty give : ann must send ask to bob within 9 days after day 5")
        self.assertEqual(self.days(whole, [], 3000), [5, 6])
        whole = deal("end over : after every 5 from 7",
                     "duty give : ann must send ask to bob within 9 days after every 5 from 3")
        self.assertEqual(self.days(whole, [], 3000), [3, 7])

    def test_steps_from_a_first_day(self):
        whole = deal("duty give : ann must send ask to bob within 1 days after every 60 from 100",
                     "free spare : give after broken give")
        self.assertEqual(self.days(whole, [], 300), [100, 101, 160, 161, 220, 221, 280, 281])

    def test_coins_that_are_put_by(self):
        whole = deal("duty give : ann must send ask to bob within 3 days after day 4",
                     "fee slow : 2 at most 5 for give")
        self.assertEqual(self.days(whole, said("1 cash 90"), 3000), [1, 4, 7, 8, 9, 10, 11])
        self.assertEqual(self.days(whole, said("1 cash 3"), 3000), [1, 4, 7, 8, 9, 10])
        self.assertEqual(self.days(whole, said("1 back 90"), 3000), [1, 4, 7])
        self.assertEqual(self.days(whole, said("20 cash 90"), 3000), [4, 7, 20])
        whole = deal("duty give : bob must send note to ann within 3 days after day 4",
                     "duty settle : ann must pay 4 coins to bob within 20 days after broken give")
        self.assertEqual(self.days(whole, said("1 cash 90"), 3000), [1, 4, 7, 8])
        self.assertEqual(self.days(whole, said("1 cash 3"), 3000), [1, 4, 7, 8, 27])


class QuickOn(unittest.TestCase):
    def test_of_states_that_any_of_them_told(self):
        for seed in range(200, 230):
            agreement, letters = made(seed)
            for first, middle, last in ((0, 1, 2), (3, 9, 60), (17, 30, 31), (40, 59, 70)):
                told = told_of(reckoned(agreement, letters, last))
                on = quick_on(agreement, letters, quick(agreement, letters, first), middle)
                self.assertEqual(on, reckoned(agreement, letters, middle))
                for state in (reckoned(agreement, letters, middle), quick(agreement, letters, middle), on):
                    self.assertEqual(told_of(quick_on(agreement, letters, state, last)), told)

    def test_day_by_day(self):
        for agreement, letters in CASES:
            state = reckoned(agreement, letters, 0)
            told = told_days(agreement, letters, 420)
            for day in range(1, 421):
                state = quick_on(agreement, letters, state, day)
                self.assertEqual(told_of(state), told[day])

    def test_to_the_last_day(self):
        for agreement, letters in CASES:
            for day in (0, 100, 2000, 2999):
                self.assertEqual(quick_on(agreement, letters, quick(agreement, letters, day), 3000),
                                 reckoned(agreement, letters, 3000))

    def test_letters_said_by_its_day_are_passed_over(self):
        early = said("3 ask", "4.1 note", "4.2 cash 9")
        late = said("5.1 ask", "6 note", "7 cash 3")
        whole = deal("duty give : ann must send ask to bob within 3 days after every 2 from 0",
                     "duty settle : ann must pay 4 coins to bob within 1 days after done give")
        state = quick(whole, early, 4)
        told = told_of(reckoned(whole, early + late, 9))
        for others in (early, [], said("0 ask", "1 ask", "2 ask", "4.99 note"), [(4, 1, "eve", "nowhere", 7)],
                       said("4 cash 77")):
            for letters in (others + late, late + others, late[::-1] + others):
                self.assertEqual(told_of(quick_on(whole, letters, state, 9)), told)
        self.assertNotEqual(told_of(quick_on(whole, late + said("5.2 ask"), state, 9)), told)

    def test_the_state_is_as_it_was(self):
        for agreement, letters in CASES:
            state = quick(agreement, letters, 60)
            told = told_of(state)
            first = told_of(quick_on(agreement, letters, state, 800))
            self.assertEqual(told_of(state), told)
            self.assertEqual(told_of(quick_on(agreement, letters, state, 61)), told_of(quick(agreement, letters, 61)))
            self.assertEqual(told_of(quick_on(agreement, letters, state, 800)), first)
            self.assertEqual(told_of(state), told)

    def test_two_ways_on_from_one_state(self):
        whole = deal("duty settle : ann must pay 9 coins to bob within 2 days after day 1",
                     "fee slow : 1 at most 9 for settle")
        state = reckoned(whole, said("2 cash 4"), 5)
        one = quick_on(whole, said("6 cash 5"), state, 7)
        other = quick_on(whole, said("6 cash 4"), state, 7)
        self.assertEqual(one.things(), [("settle", 1, 1, 3, "done", 6, 0)])
        self.assertEqual(other.things(), [("settle", 1, 1, 3, "late", 3, 1)])
        self.assertEqual((one.fees(), other.fees()), ([("slow", 1, 2, 0)], [("slow", 1, 4, 0)]))


class Turnings(unittest.TestCase):
    def expected(self, agreement, letters, last):
        """By what the oracle tells behind each day, and ahead of the morning of day 0."""
        told = [Oracle(agreement, letters).told()] + told_days(agreement, letters, last)
        return [day for day in range(last + 1) if turning(told[day]) != turning(told[day + 1])]

    def test_against_the_plain_reckoning(self):
        for seed in range(300, 380):
            agreement, letters = made(seed)
            expected = self.expected(agreement, letters, 70)
            for last in (0, 1, 30, 70):
                self.assertEqual(turnings(agreement, letters, last), [day for day in expected if day <= last])

    def test_over_hundreds_of_days(self):
        for agreement, letters in CASES:
            self.assertEqual(turnings(agreement, letters, 800), self.expected(agreement, letters, 800))

    def test_by_hand(self):
        whole = deal("duty give : ann must send ask to bob within 3 days after day 4",
                     "fee slow : 2 at most 5 for give")
        for letters, days in (
            ([], [4, 7, 8, 9, 10]), (said("5 ask"), [4, 5]), (said("9 ask"), [4, 7, 8, 9]),
            (said("2 note", "3 note"), [2, 4, 7, 8, 9, 10]),
            (said("6 cash 3"), [4, 6, 7, 8, 9, 10]), (said("20 cash 3"), [4, 7, 8, 9, 10, 20]),
            (said("6 note 3"), [4, 7, 8, 9, 10]),
            (said("6 cash 3", "12 cash 2"), [4, 6, 7, 8, 9, 10, 12]),
        ):
            self.assertEqual(turnings(whole, letters, 3000), days)
            self.assertEqual(turnings(whole, letters, 7), [day for day in days if day <= 7])

    def test_of_day_0(self):
        whole = deal("duty give : ann must send ask to bob within 3 days after day 4")
        self.assertEqual(turnings(whole, [], 0), [])
        self.assertEqual(turnings(whole, said("0 ask"), 0), [0])
        self.assertEqual(turnings(whole, said("0 ask 5"), 0), [])
        self.assertEqual(turnings(deal("duty give : ann must send ask to bob within 3 days after day 0"), [], 0), [0])
        self.assertEqual(turnings(deal("end over : after day 0"), [], 0), [0])
        self.assertEqual(turnings(deal("end over : after day 1"), [], 0), [])
        parties, rest, words, clauses = deal("end over : after day 3000")
        for last, days in ((0, []), (1, [1]), (2999, [1])):
            more = (("more", "bob", None, ("before", 1)), ("much", "bob", None, ("before", 0)))
            self.assertEqual(turnings((parties, rest, words + more, clauses), said("0 ask 5"), last), days)

    def test_by_what_may_be_sent_alone(self):
        parties, rest, _, clauses = deal("duty give : ann must send ask to bob within 3 days after day 40")
        for condition, days in (
            (("before", 0), [40, 43]), (("before", 1), [1, 40, 43]), (("before", 7), [7, 40, 43]),
            (("not", ("before", 7)), [7, 40, 43]),
            (("before", 3000), [40, 43, 3000]), (("all", ("before", 9), ("not", ("before", 5))), [5, 9, 40, 43]),
            (("any", ("had", "ask"), ("before", 40)), [40, 43]), (("all", ("had", "ask"), ("before", 9)), [40, 43]),
            (("any", ("all", ("before", 2), ("not", ("ended",))), ("not", ("before", 3))), [2, 3, 40, 43]),
        ):
            words = (("ask", "ann", None, None), ("more", "bob", None, condition))
            self.assertEqual(turnings((parties, rest, words, clauses), [], 3000), days)

    def test_what_is_told_alike_does_not_turn(self):
        """Nothing is brought where two wait, of 0 coins, or where it has ended; an idle letter does nothing."""
        whole = deal("duty give : ann must send ask to bob within 30 days after every 1 from 0")
        self.assertEqual(turnings(whole, [], 100), [0, 1, 30, 31])
        whole = deal("duty part : bob must pay 1 / 9 to ann within 3 days after letter cash",
                     "end over : after letter note")
        self.assertEqual(turnings(whole, said("3 cash 8", "5 note", "6 note", "7 ask", "8 ask", "9 cash 9"), 100),
                         [3, 5, 7, 9])
        self.assertEqual(turnings(whole, said("3 ask 8", "4 cash 0"), 100), [])

    def test_near_day_3000(self):
        whole = deal("duty give : ann must send ask to bob within 1 days after day 2997",
                     "fee slow : 1 at most 9 for give")
        self.assertEqual(turnings(whole, [], 3000), [2997, 2998, 2999, 3000])
        self.assertEqual(turnings(whole, [], 2999), [2997, 2998, 2999])
        self.assertEqual(turnings(deal("end over : after day 3000"), [], 3000), [3000])
        self.assertEqual(turnings(deal("end over : after day 3000"), [], 2999), [])

    def test_a_new_list(self):
        whole = CASES[0][0]
        told = turnings(whole, [], 50)
        told.clear()
        self.assertNotEqual(turnings(whole, [], 50), [])
        self.assertTrue(all(type(day) is int for day in turnings(whole, [], 50)))


class Refused(Refuses):
    def test_in_this_order(self):
        state = quick(WHOLE, [], 3)
        for function in (quick, turnings, lambda agreement, letters, day: quick_on(agreement, letters, state, day)):
            self.refuses_in_order(function, WHOLE)

    def test_a_last_day_that_is_not_later(self):
        for first in (0, 1, 7, 3000):
            state = quick(WHOLE, [], first)
            for day in (first, first - 1, 0, -1, first // 2):
                with self.assertRaises(NoDay):
                    quick_on(WHOLE, [], state, day)
            if first < 3000:
                self.assertEqual(quick_on(WHOLE, [], state, first + 1).day, first + 1)
            with self.assertRaises(NoDay):
                quick_on(WHOLE, [], state, 3001)
            with self.assertRaises(NoLetters):
                quick_on(WHOLE, (), state, first)
            with self.assertRaises(NoAgreement):
                quick_on(None, (), state, first)
