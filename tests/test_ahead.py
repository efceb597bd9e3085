"""Promise 23: what may come, of all conduct."""

import unittest

from dealtongue.agreements import first_wrong, is_agreement
from dealtongue.ahead import may_come
from dealtongue.errors import HasCoins, NoAgreement, NoCondition, TooWide
from dealtongue.letters import are_letters
from dealtongue.reckoner import reckoned
from tests.conducts import first_day
from tests.looking import COINS, GIVE, NARROW, SPARE, WIDE, plain, plain_rested, worded
from tests.narrow import Narrow
from tests.samples import odd_things

NEVER = ("never",)


class MayCome(unittest.TestCase):
    maxDiff = None

    def comes(self, agreement, condition, day, many):
        """It comes first on a day, behind so many letters."""
        told = may_come(agreement, condition)
        self.assertEqual(told[:2], ("comes", day), condition)
        self.assertEqual(len(told), 3)
        self.assertEqual(len(told[2]), many, told)
        self.assertTrue(are_letters(told[2]))
        self.assertTrue(all(letter[0] <= day for letter in told[2]))
        if day <= 3000:
            self.assertTrue(reckoned(agreement, told[2], day).holds(condition))

    def never(self, agreement, condition):
        self.assertEqual(may_come(agreement, condition), NEVER)

    def test_had(self):
        whole = plain(GIVE.format("2 days", "day 3"))
        self.comes(whole, ("had", "ask"), 0, 1)
        self.comes(whole, ("not", ("had", "ask")), 0, 0)
        self.comes(whole, ("all", ("had", "ask"), ("had", "note"), ("had", "tell")), 0, 3)
        self.comes(worded(whole, ask=("not", ("before", 7))), ("had", "ask"), 7, 1)
        self.comes(worded(whole, ask=("had", "note"), note=("had", "tell")), ("had", "ask"), 0, 3)
        self.never(worded(whole, ask=("had", "note"), note=("had", "ask")), ("had", "ask"))
        self.comes(worded(whole, ask=("owes", "give")), ("had", "ask"), 3, 1)
        self.comes(worded(whole, ask=("broken", "give")), ("had", "ask"), 6, 1)
        self.never(worded(whole, ask=("ended",)), ("had", "ask"))

    def test_owes_and_broken(self):
        whole = plain(GIVE.format("2 days", "day 3"))
        self.comes(whole, ("owes", "give"), 3, 0)
        self.comes(whole, ("broken", "give"), 5, 0)
        self.comes(whole, ("all", ("not", ("owes", "give")), ("not", ("before", 3))), 3, 1)
        self.comes(whole, ("all", ("not", ("owes", "give")), ("broken", "give")), 6, 1)
        self.comes(whole, ("all", ("had", "ask"), ("owes", "give")), 3, 1)
        self.comes(whole, ("all", ("had", "ask"), ("broken", "give")), 5, 1)
        whole = plain(GIVE.format("2 days", "letter note"))
        self.comes(whole, ("owes", "give"), 0, 1)
        self.comes(whole, ("broken", "give"), 2, 1)
        self.comes(whole, ("all", ("broken", "give"), ("not", ("owes", "give"))), 3, 2)

    def test_ended(self):
        self.comes(plain("end over : after day 10"), ("ended",), 10, 0)
        self.comes(plain("end over : after letter ask"), ("ended",), 0, 1)
        self.comes(plain("end over : after letter ask while not before 9"), ("ended",), 9, 1)
        self.never(plain("end over : after day 3 while not before 4"), ("ended",))
        self.comes(plain("end over : after every 4 from 2 while not before 4"), ("ended",), 6, 0)
        self.never(plain(GIVE.format("2 days", "letter note"), "end over : after done give while broken give",
                         "free spare : give after broken give"), ("all", ("ended",), ("not", ("ended",))))

    def test_before(self):
        whole = plain(SPARE, GIVE.format("1 days", "day 1"))
        for day in range(11):
            self.comes(whole, ("not", ("before", day)), day, 0)
        self.comes(whole, ("before", 1), 0, 0)
        self.never(whole, ("before", 0))
        self.comes(whole, ("owes", "give"), 1, 0)
        self.never(whole, ("all", ("before", 2), ("broken", "give")))
        self.comes(whole, ("all", ("before", 3), ("broken", "give")), 2, 0)

    def test_within_not_all_any(self):
        whole = plain(GIVE.format("2 days", "letter note"), "end over : after broken give")
        self.comes(whole, ("any", ("ended",), ("broken", "give")), 2, 1)
        self.comes(whole, ("not", ("all", ("not", ("had", "ask")), ("not", ("owes", "give")))), 0, 1)
        self.comes(whole, ("all", ("ended",), ("not", ("owes", "give")), ("had", "ask")), 2, 2)
        self.never(whole, ("all", ("ended",), ("owes", "give")))
        self.never(whole, ("all", ("ended",), ("not", ("broken", "give"))))
        self.never(whole, ("any", ("all", ("had", "ask"), ("not", ("had", "ask"))), ("before", 0)))

    def test_that_one_is_kept_for_long(self):
        """To hold on day 10 a letter is wanted for each time it is brought."""
        whole = plain(GIVE.format("1 days", "every 1 from 0"))
        self.comes(whole, ("all", ("not", ("broken", "give")), ("not", ("before", 10))), 10, 10)
        self.comes(whole, ("all", ("not", ("broken", "give")), ("not", ("before", 10)), ("not", ("owes", "give"))), 10, 11)
        whole = plain(GIVE.format("3 days", "every 4 from 1"))
        self.comes(whole, ("all", ("not", ("broken", "give")), ("not", ("before", 10))), 10, 2)

    def test_days_of_rest(self):
        """By working days 5 and 6 are passed over, and a holiday."""
        for rest, trigger, due in ((((5, 6), ()), "day 4", 8), (((5, 6), (7,)), "day 4", 9), (((), ()), "day 4", 6),
                                   (((), (5, 7)), "day 4", 8), (((0, 1, 2, 3), ()), "day 6", 12), (((6,), (10,)), "day 8", 11)):
            self.comes(plain_rested(rest, GIVE.format("2 work", trigger)), ("broken", "give"), due, 0)
        whole = plain_rested(((5, 6), ()), GIVE.format("1 work", "letter note"),
                             "duty back : bob must send note to ann within 3 work after broken give")
        self.comes(whole, ("broken", "back"), 4, 1)
        # Begun on a Friday both are due later; the first day on which both are late at once is none the less 4.
        self.comes(whole, ("all", ("broken", "back"), ("not", ("before", 10))), 10, 1)

    def test_steps(self):
        whole = plain(GIVE.format("2 days", "every 3 from 2"))
        self.comes(whole, ("broken", "give"), 4, 0)
        self.comes(whole, ("all", ("had", "ask"), ("broken", "give")), 4, 1)
        whole = plain("end over : after every 4 from 3 while had ask", "free spare : give after every 3 from 1",
                      GIVE.format("2 days", "letter note"))
        self.comes(whole, ("ended",), 3, 1)
        self.comes(whole, ("broken", "give"), 3, 1)
        never = ("all", ("broken", "give"), ("owes", "give"))
        whole = plain("free spare : give after every 2 from 0", GIVE.format("1 days", "letter note"))
        self.comes(whole, never, 1, 1)
        whole = plain("free spare : give after every 1 from 0", GIVE.format("1 days", "letter note"))
        self.never(whole, never)

    def test_that_days_by_steps_meet(self):
        """What frees goes by threes, what ends by fours, on days of their own."""
        row = GIVE.format("1 days", "letter note")
        whole = plain(row, "free one : give after every 3 from 1 while had ask",
                      "end over : after every 4 from 2 while ( owes give and not before 7 )")
        self.comes(whole, ("ended",), 10, 1)
        whole = plain(row, "free one : give after every 2 from 0", "end over : after every 4 from 0 while owes give")
        self.comes(whole, ("ended",), 4, 1)

    def test_freed_and_stays(self):
        whole = plain(GIVE.format("1 days", "day 3"), "free spare : give after day 4")
        self.never(whole, ("broken", "give"))
        whole = plain(GIVE.format("2 days", "day 3"), "end over : after day 4")
        self.never(whole, ("broken", "give"))
        whole = plain(GIVE.format("2 days", "day 3") + " stays", "end over : after day 4")
        self.comes(whole, ("broken", "give"), 5, 0)
        whole = plain(GIVE.format("1 days", "ended"), "end over : after letter note")
        self.comes(whole, ("broken", "give"), 1, 1)

    def test_two_at_most_and_the_first_one(self):
        whole = plain(GIVE.format("3 days", "letter note"),
                      "duty back : bob must send note to ann within 1 days after done give")
        self.comes(whole, ("owes", "back"), 0, 2)
        self.comes(whole, ("broken", "back"), 1, 2)
        both = plain("duty give : ann must send ask to bob within 3 days after day 1",
                     "duty back : ann must send ask or tell to bob within 2 days after day 2")
        self.comes(both, ("all", ("broken", "give"), ("not", ("broken", "back"))), 4, 1)
        self.comes(both, ("all", ("broken", "back"), ("not", ("broken", "give"))), 4, 1)

    def test_two_on_one_day(self):
        """Two notes bring two things that are due on one day, of which one ask does one."""
        whole = plain(GIVE.format("3 days", "letter note"))
        once = worded(whole, ask=("owes", "give"), note=("not", ("had", "ask")))
        self.comes(once, ("all", ("had", "ask"), ("owes", "give")), 0, 3)
        self.comes(once, ("all", ("had", "ask"), ("broken", "give")), 3, 3)
        self.comes(worded(whole, ask=("owes", "give"), note=("not", ("had", "note"))),
                   ("all", ("had", "ask"), ("not", ("owes", "give"))), 0, 2)
        self.never(worded(whole, ask=("owes", "give"), note=("not", ("had", "note"))),
                   ("all", ("had", "ask"), ("owes", "give")))

    def test_once_for_each_happening(self):
        """A thing done brings one, and so does the end, which comes once."""
        whole = plain(GIVE.format("2 days", "day 1"), "duty back : bob must send note to ann within 3 days after done give")
        self.never(worded(whole, note=("owes", "back")), ("all", ("had", "note"), ("owes", "back")))
        self.comes(worded(whole, note=("owes", "back")), ("all", ("had", "note"), ("not", ("owes", "back"))), 1, 2)
        whole = plain(GIVE.format("2 days", "day 1"), "duty back : bob must send note to ann within 3 days after broken give")
        self.never(worded(whole, note=("owes", "back")), ("all", ("had", "note"), ("owes", "back")))
        ended = plain(GIVE.format("3 days", "ended"), "end over : after letter note", "end more : after letter tell")
        self.never(worded(ended, ask=("ended",)), ("all", ("had", "ask"), ("owes", "give")))
        # A second end would free it and bring it anew.
        self.never(worded(ended, note=("before", 1), ask=("before", 0)),
                   ("all", ("had", "note"), ("not", ("broken", "give")), ("not", ("before", 4))))

    def test_brought_in_the_first_morning(self):
        for holidays, due in (((), 1), ((1,), 2), ((1, 2, 3), 4), ((0,), 1), ((2,), 1)):
            self.comes(plain_rested(((), holidays), GIVE.format("1 work", "day 0")), ("broken", "give"), due, 0)

    def test_days_go_on_as_if_each_were_one(self):
        """What takes many rounds is told all the same, and what never comes is told as never."""
        whole = plain(GIVE.format("3 days", "every 4 from 0"),
                      "duty back : bob must send note to ann within 3 days after broken give")
        self.never(whole, ("all", ("broken", "back"), ("not", ("broken", "give"))))
        self.comes(whole, ("broken", "back"), 6, 0)

    def test_made_ones(self):
        seen = {}
        for seed in range(5000, 5120):
            maker = Narrow(seed, 5, (0.6, 0.3)[seed % 2])
            agreement, condition = maker.agreement(), maker.condition(0)
            self.assertTrue(is_agreement(agreement))
            found = first_day(agreement, condition, 8)
            told = may_come(agreement, condition)
            if found is not None:
                self.comes(agreement, condition, *found)
            elif told != NEVER:
                self.assertGreater(told[1], 8)
                self.comes(agreement, condition, told[1], len(told[2]))
            seen[told[0]] = seen.get(told[0], 0) + 1
        self.assertGreater(min(seen.values()), 20)

    def test_on_named_days_to_ten(self):
        for seed in range(5200, 5230):
            maker = Narrow(seed, 10, 0.4)
            agreement, condition = maker.agreement(), maker.condition(0)
            found = first_day(agreement, condition, 12)
            told = may_come(agreement, condition)
            if found is None:
                self.assertTrue(told == NEVER or told[1] > 12)
            else:
                self.comes(agreement, condition, *found)


class Refused(unittest.TestCase):
    def test_in_this_order(self):
        for thing in odd_things():
            for condition in (("ended",), None):
                with self.assertRaises(NoAgreement) as caught:
                    may_come(thing, condition)
                self.assertEqual(caught.exception.place, first_wrong(thing))
        parties, rest, words, clauses = WIDE[0]
        wide_coins = (parties, rest, words + (("cash", "ann", "bob", None),), clauses)
        for agreement in (COINS, wide_coins):
            for condition in (("ended",), None, ("before", 3000)):
                with self.assertRaises(HasCoins):
                    may_come(agreement, condition)
        for agreement in (NARROW,) + WIDE:
            for thing in [None, ("had", "nobody"), ("owes", "ask"), ("before", 3001), ("all", ("ended",)),
                          ("not", ("not", ("not", ("not", ("ended",)))))] + odd_things():
                with self.assertRaises(NoCondition):
                    may_come(agreement, thing)

    def test_too_wide(self):
        for agreement in WIDE:
            self.assertTrue(is_agreement(agreement))
            with self.assertRaises(TooWide):
                may_come(agreement, ("ended",))
        for condition in (("before", 11), ("not", ("before", 3000)), ("any", ("ended",), ("not", ("before", 11)))):
            with self.assertRaises(TooWide):
                may_come(NARROW, condition)

    def test_what_is_not_too_wide(self):
        self.assertEqual(may_come(NARROW, ("not", ("before", 10)))[:2], ("comes", 10))
        self.assertEqual(may_come(NARROW, ("ended",))[:2], ("comes", 10))
        self.assertEqual(may_come(plain_rested(((1, 2, 3, 4), (10,)), GIVE.format("3 work", "letter note"),
                                               "duty back : bob must send note to ann within 3 work after broken give"),
                                  ("broken", "back"))[0], "comes")
        many = plain(GIVE.format("3 days", "letter note"), "duty back : ann must send tell to bob within 3 days after done give",
                     *[f"free f{name} : give after letter tell while had note" for name in "abcde"],
                     *[f"end e{name} : after every 4 from 10 while broken back" for name in "abcde"])
        self.assertEqual(may_come(many, ("ended",))[:2], ("comes", 10))

    def test_what_is_told_is_the_askers_own(self):
        told = may_come(NARROW, ("had", "note"))
        told[2].clear()
        self.assertEqual(len(may_come(NARROW, ("had", "note"))[2]), 1)
