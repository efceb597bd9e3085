"""Promise 18: texts behind one another."""

import unittest

from dealtongue.agreements import first_wrong
from dealtongue.errors import NoDay, NoLetters, NoVersions
from dealtongue.quicker import quick
from dealtongue.reckoner import State, reckoned
from dealtongue.texts import read_agreement
from dealtongue.versions import reached_by, reckoned_by
from tests.makers import made, made_versions
from tests.oracle import told_days_by, told_of
from tests.reckons import deal, rested, said
from tests.samples import NO_DAYS, odd_things

GIVE = "duty give : ann must send ask to bob within 9 days after day 3"
PAY = "duty settle : ann must pay 9 coins to bob within 2 days after day 3"
SLOW = "fee slow : 2 at most 9 for settle"
SPARE = "end spare : after day 3000"
ONE = deal(GIVE, PAY, SLOW)


def told_by(*rows):
    """Tells the agreement of these rows behind one of parties."""
    return read_agreement("\n".join(("parties ann bob cat",) + rows))


def worded(whole, *words):
    """Tells the agreement with these words in the place of its own."""
    return (whole[0], whole[1], words, whole[3])


class Versions(unittest.TestCase):
    maxDiff = None

    def state(self, versions, letters, day):
        """Asks the package, and the oracle to agree."""
        state = reckoned_by(versions, letters, day)
        self.assertEqual(told_of(state), told_days_by(versions, letters, day)[-1])
        self.assertEqual(told_of(reckoned_by(versions, letters[::-1], day)), told_of(state))
        return state

    def things(self, versions, letters, day, *things):
        self.assertEqual(self.state(versions, letters, day).things(), list(things))


class CarriedOn(Versions):
    def test_one_version_tells_what_reckoned_does(self):
        for seed in range(40):
            agreement, letters = made(seed)
            for day in (0, 15, 60):
                state = reckoned_by([(0, agreement)], letters, day)
                self.assertIsInstance(state, State)
                self.assertEqual(state, reckoned(agreement, letters, day))

    def test_the_same_text_again(self):
        for seed in range(40):
            agreement, letters = made(seed)
            versions = [(0, agreement), (20, agreement), (21, agreement), (40, agreement)]
            for day in (19, 20, 21, 60):
                self.assertEqual(reckoned_by(versions, letters, day), quick(agreement, letters, day))

    def test_an_open_thing_stays(self):
        other = deal(GIVE.replace("9 days", "1 days"))
        for first in (4, 11, 12):
            self.things([(0, ONE), (first, other)], [], 11, ("give", 1, 3, 12, "open", 3, 0),
                        *([("settle", 1, 3, 5, "late", 5, 9)] if first == 12 else
                          [("settle", 1, 3, 5, "freed", first, 9)]))
        self.things([(0, ONE), (4, other)], said("6 ask"), 20, ("give", 1, 3, 12, "done", 6, 0),
                    ("settle", 1, 3, 5, "freed", 4, 9))
        self.things([(0, ONE), (4, other)], [], 20, ("give", 1, 3, 12, "late", 12, 0), ("settle", 1, 3, 5, "freed", 4, 9))

    def test_the_text_is_in_force_ahead_of_the_morning(self):
        for first, brought in ((2, []), (3, []), (4, [("give", 1, 3, 12, "freed", 4, 0)])):
            self.things([(0, deal(GIVE)), (first, deal(SPARE))], [], 9, *brought)
        for first, brought in ((3, 12), (2, 12), (4, None)):
            state = self.state([(0, deal(SPARE)), (first, deal(GIVE))], [], 9)
            self.assertEqual([thing[3] for thing in state.things()], [brought] if brought else [])
        # The morning's conditions are asked behind what the new text frees.
        free = deal("duty more : ann must send ask to bob within 9 days after day 4 while not had note",
                    "free them : more after day 4")
        self.things([(0, deal(GIVE)), (4, free)], [], 9, ("more", 1, 4, 13, "open", 4, 0), ("give", 1, 3, 12, "freed", 4, 0))

    def test_a_late_thing_stays(self):
        other = deal(PAY.replace("2 days", "30 days"), SLOW)
        versions = [(0, ONE), (7, other)]
        self.things(versions, [], 9, ("settle", 1, 3, 5, "late", 5, 9), ("give", 1, 3, 12, "freed", 7, 0))
        state = self.state(versions, said("9 cash 4"), 9)
        self.assertEqual(state.fees(), [("slow", 1, 8, 0)])
        self.assertEqual(state.broken(), [("settle", 1, 5)])
        self.assertEqual(state.owed(), [("ann", "bob", ("coins",), 5, 5), ("ann", "bob", ("coins",), 5, 8)])

    def test_with_another_who_whom_or_kind_it_is_freed(self):
        one = deal("duty give : ann must send ask to bob within 9 days after day 3")
        for row, how in (
            ("duty give : ann must send ask to bob within 1 days after letter note stays", "open"),
            ("duty give : ann must send ask to cat within 9 days after day 3", "freed"),
            ("duty give : bob must send note to ann within 9 days after day 3", "freed"),
            ("duty give : ann must pay 9 coins to bob within 9 days after day 3", "freed"),
            ("duty other : ann must send ask to bob within 9 days after day 3", "freed"),
            ("end give : after day 90", "freed"),
        ):
            state = self.state([(0, one), (5, deal(row))], [], 8)
            self.assertEqual(state.things(), [("give", 1, 3, 12, how, 5 if how == "freed" else 3, 0)])
        one = deal(PAY.replace("2 days", "9 days"))
        for row, how in ((PAY.replace("9 coins", "3 coins"), "open"), (PAY.replace("pay 9 coins", "send ask"), "freed"),
                         (PAY.replace("9 coins", "1 / 2").replace("day 3", "letter cash"), "open")):
            self.assertEqual(self.state([(0, one), (5, deal(row))], [], 8).things()[0][4:],
                             (how, 5 if how == "freed" else 3, 9))

    def test_stays_or_the_end_do_not_matter(self):
        rows = ["duty give : ann must send ask to bob within 9 days after day 3 stays", "end over : after day 4"]
        self.things([(0, deal(*rows)), (6, deal(SPARE))], [], 9, ("give", 1, 3, 12, "freed", 6, 0))
        self.things([(0, deal(*rows)), (6, deal(rows[0]))], [], 9, ("give", 1, 3, 12, "open", 3, 0))

    def test_another_amount_stays_with_the_thing(self):
        versions = [(0, deal(PAY)), (4, deal(PAY.replace("9 coins", "20 coins")))]
        self.things(versions, said("4 cash 9"), 4, ("settle", 1, 3, 5, "done", 4, 0))

    def test_by_whose_words_it_is_done_from_then_on(self):
        ask, tell, both = [told_by("word ask by ann", "word tell by ann", GIVE.replace("ask", words))
                           for words in ("ask", "tell", "ask or tell")]
        letters = [(5, 1, "ann", "ask", 0), (7, 1, "ann", "tell", 0)]
        for versions, day, words in (
            ([(0, ask)], 5, ("ask",)), ([(0, ask), (6, tell)], 5, ("tell",)), ([(0, ask), (5, tell)], 7, ("tell",)),
            ([(0, tell), (5, both)], 5, ("ask", "tell")), ([(0, both), (6, tell)], 5, ("tell",)),
            ([(0, tell), (6, both), (7, tell)], 7, ("tell",)), ([(0, tell)], 7, ("tell",)),
        ):
            self.things(versions, letters, 9, ("give", 1, 3, 12, "done", day, 0))
            self.assertEqual(self.state(versions, [], 9).owed(), [("ann", "bob", words, 12, 0)])

    def test_had_ended_and_put_by_stay(self):
        over = deal("end over : after letter note", GIVE)
        state = self.state([(0, over), (6, ONE), (7, deal(GIVE))], said("1 ask", "1.2 cash 5", "2 note"), 9)
        self.assertEqual((state.ended, state.had(), state.put_by()), (2, ["ask", "cash", "note"], {("ann", "bob"): 5}))
        self.assertEqual(state.things(), [])
        # It doesn't end again, and nothing is brought by it.
        again = deal("end over : after day 7", "duty last : ann must send ask to bob within 2 days after ended",
                     "duty give : ann must send ask to bob within 2 days after day 8")
        self.things([(0, over), (6, again)], said("2 note"), 9)
        self.things([(0, over), (6, again)], [], 9, ("last", 1, 7, 9, "late", 9, 0), ("give", 1, 3, 12, "freed", 7, 0))

    def test_put_by_goes_to_debts_of_the_new_text(self):
        state = self.state([(0, deal(SPARE)), (3, ONE)], said("1 cash 20"), 3)
        self.assertEqual(state.put_by(), {("ann", "bob"): 11})
        self.assertEqual(state.things()[1], ("settle", 1, 3, 5, "done", 3, 0))

    def test_conditions_ask_what_was_carried_on(self):
        words = (("ask", "ann", None, ("had", "note")), ("note", "bob", None, ("not", ("broken", "give"))),
                 ("tell", "bob", None, ("owes", "give")))
        one = deal("duty give : ann must send ask to bob within 2 days after day 3")
        for first, day, may in ((4, 4, ["note", "tell"]), (4, 5, ["tell"]), (9, 9, ["tell"])):
            self.assertEqual(self.state([(0, one), (first, worded(one, *words))], [], day).may(), may)
        other = worded(deal("duty give : ann must send ask to cat within 2 days after day 30"), *words)
        self.assertEqual(self.state([(0, one), (4, other)], [], 6).may(), ["note"])
        self.assertEqual(self.state([(0, one), (6, other)], said("2 note"), 6).may(), ["ask"])
        state = self.state([(0, one), (6, other)], [], 6)
        self.assertTrue(state.holds(("broken", "give")))
        self.assertFalse(state.holds(("owes", "give")))


class Numbers(Versions):
    def test_they_go_on(self):
        one = deal("duty give : ann must send ask to bob within 1 days after every 3 from 0")
        gone = deal(SPARE)
        self.things([(0, one), (5, gone), (8, one)], said("1 ask"), 9, ("give", 1, 0, 1, "done", 1, 0),
                    ("give", 2, 3, 4, "freed", 5, 0), ("give", 3, 9, 10, "open", 9, 0))
        other = deal("duty give : bob must pay 4 coins to ann within 1 days after every 3 from 0")
        self.things([(0, one), (5, other), (8, one)], said("1 ask"), 9, ("give", 1, 0, 1, "done", 1, 0),
                    ("give", 2, 3, 4, "freed", 5, 0), ("give", 3, 6, 7, "freed", 8, 4), ("give", 4, 9, 10, "open", 9, 0))

    def test_two_of_a_duty_over_two_texts(self):
        one = deal("duty give : ann must send ask to bob within 20 days after day 3")
        other = deal("duty give : ann must send ask to bob within 2 days after every 1 from 6")
        # The one brought by the elder text is due last, and still the first by its number in what is told.
        self.things([(0, one), (5, other)], said("7 ask"), 7, ("give", 1, 3, 23, "open", 3, 0),
                    ("give", 2, 6, 8, "done", 7, 0))
        self.things([(0, one), (5, other)], [], 9, ("give", 1, 3, 23, "open", 3, 0), ("give", 2, 6, 8, "late", 8, 0))

    def test_of_broken_in_one_evening_the_first_by_number(self):
        one = deal("duty give : ann must send ask to bob within 5 days after day 3")
        other = deal("duty give : ann must send ask to bob within 2 days after day 6",
                     "duty more : bob must send note to ann within 9 days after broken give")
        self.things([(0, one), (5, other)], [], 8, ("give", 1, 3, 8, "late", 8, 0), ("give", 2, 6, 8, "late", 8, 0),
                    ("more", 1, 8, 17, "open", 8, 0), ("more", 2, 8, 17, "open", 8, 0))


class Fees(Versions):
    def fees(self, versions, letters, day, *fees):
        self.assertEqual(self.state(versions, letters, day).fees(), list(fees))

    def test_they_grow_on(self):
        other = deal(PAY, "fee slow : 5 at most 30 for settle")
        self.fees([(0, ONE), (8, other)], [], 7, ("slow", 1, 4, 0))
        self.fees([(0, ONE), (8, other)], [], 8, ("slow", 1, 9, 0))
        self.fees([(0, ONE), (8, other)], [], 30, ("slow", 1, 30, 0))

    def test_one_that_has_grown_past_the_most(self):
        other = deal(PAY, "fee slow : 5 at most 6 for settle")
        self.fees([(0, ONE), (9, other)], [], 8, ("slow", 1, 6, 0))
        self.fees([(0, ONE), (10, other)], [], 20, ("slow", 1, 8, 0))
        self.fees([(0, ONE), (10, other), (15, ONE)], [], 20, ("slow", 1, 9, 0))

    def test_one_that_the_new_text_has_not(self):
        gone = deal(PAY)
        self.fees([(0, ONE), (8, gone)], [], 20, ("slow", 1, 4, 0))
        state = self.state([(0, ONE), (8, gone)], [], 20)
        self.assertEqual(state.owed(), [("ann", "bob", ("coins",), 5, 4), ("ann", "bob", ("coins",), 5, 9)])
        # A later one has it again, and it grows on.
        self.fees([(0, ONE), (8, gone), (10, ONE)], [], 10, ("slow", 1, 6, 0))
        # Of the same name, but for another duty it is another one.
        other = deal(PAY, PAY.replace("settle", "more").replace("day 3", "day 8"), "fee slow : 1 at most 9 for more")
        self.fees([(0, ONE), (8, other)], [], 12, ("slow", 1, 2, 0), ("slow", 1, 4, 0))
        self.fees([(0, ONE), (8, other), (12, ONE)], [], 12, ("slow", 1, 6, 0), ("slow", 1, 1, 0))

    def test_it_stays_a_debt_behind_all_others_of_the_two(self):
        other = deal("duty more : ann must pay 5 coins to bob within 20 days after day 8")
        versions = [(0, ONE), (8, other)]
        for coins, fee, left in ((1, 0, 4), (5, 0, 0), (6, 1, 0), (9, 4, 0)):
            state = self.state(versions, said(f"9 cash {coins}"), 9)
            self.assertEqual((state.fees(), state.things()[0][6]), ([("slow", 1, 4, fee)], left))
        # Where the text has it, it goes by its day due.
        versions = [(0, ONE), (8, deal(*("fee slow : 2 at most 4 for settle", PAY.replace("day 3", "day 2000"))))]
        state = self.state(versions, said("9 cash 5"), 9)
        self.assertEqual((state.fees(), state.things()[0][6]), ([("slow", 1, 4, 4)], 8))

    def test_several_left_out_go_by_names_duties_and_numbers(self):
        pay = "duty {} : ann must pay 1 coins to bob within 1 days after every 1 from {}"
        one = deal(pay.format("zeta", 1), pay.format("alpha", 1), "fee slow : 3 at most 3 for zeta",
                   "fee dear : 3 at most 3 for alpha", "fee cheap : 3 at most 3 for zeta")
        versions = [(0, one), (6, deal(SPARE))]
        grown = [("cheap", 1), ("cheap", 2), ("dear", 1), ("dear", 2), ("slow", 1), ("slow", 2)]
        self.fees(versions, [], 9, *[key + (3, 0) for key in grown])
        for coins in range(1, 19):
            paid = [max(0, min(3, coins - 3 * at)) for at in range(6)]
            self.fees(versions, said(f"9 cash {coins}"), 9, *[key + (3, part) for key, part in zip(grown, paid)])
        # One fee's name for two duties, in two texts.
        two = deal(pay.format("zeta", 1), pay.format("alpha", 1), "fee slow : 1 at most 1 for alpha")
        versions = [(0, one), (6, two), (8, deal(SPARE))]
        self.fees(versions, [], 9, *grown_rows("cheap", 3), *grown_rows("dear", 3), *grown_rows("slow", 1),
                  *grown_rows("slow", 3))
        self.fees(versions, said("9 cash 14"), 9, ("cheap", 1, 3, 3), ("cheap", 2, 3, 3), ("dear", 1, 3, 3),
                  ("dear", 2, 3, 3), ("slow", 1, 1, 1), ("slow", 2, 1, 1), *grown_rows("slow", 3))

    def test_of_the_two_whose_it_was(self):
        other = deal(PAY.replace("ann", "bob", 1).replace("to bob", "to ann"), SLOW)
        versions = [(0, ONE), (8, other)]
        state = self.state(versions, said("9 cash 3"), 9)
        self.assertEqual(state.fees(), [("slow", 1, 4, 3)])
        self.assertEqual(state.owed(), [("ann", "bob", ("coins",), 5, 1)])
        self.assertEqual(state.things()[0][4:], ("freed", 8, 9))


def grown_rows(fee, grown):
    return [(fee, 1, grown, 0), (fee, 2, grown, 0)]


class Places(Versions):
    def test_those_of_the_text_in_force_then_by_names(self):
        rows = [f"duty {name} : ann must send ask to bob within 1 days after day 1" for name in ("zeta", "beta", "alpha")]
        for text, order in ((rows, "zeta beta alpha"), (rows[::-1], "alpha beta zeta"), (rows[1:2], "beta alpha zeta"),
                            ([SPARE], "alpha beta zeta"), (rows[:1], "zeta alpha beta")):
            state = self.state([(0, deal(*rows)), (5, deal(*text))], [], 9)
            self.assertEqual([thing[0] for thing in state.things()], order.split(" "))
            self.assertEqual([row[0] for row in state.broken()], order.split(" "))
            self.assertEqual([row[0] for row in self.state([(0, deal(*rows)), (10, deal(*text))], [], 9).broken()],
                             ["zeta", "beta", "alpha"])
        # A duty is had by its name alone.
        other = deal(rows[0], "duty alpha : bob must send note to ann within 1 days after day 90")
        state = self.state([(0, deal(*rows)), (5, other)], [], 9)
        self.assertEqual([thing[0] for thing in state.things()], ["zeta", "alpha", "beta"])

    def test_words_of_the_new_text(self):
        other = worded(deal(SPARE), ("cry", "cat", None, None), ("note", "ann", None, None))
        letters = said("4 ask", "4.2 note", "6 ask", "6.2 note") + [(7, 1, "ann", "note", 0), (3, 1, "cat", "cry", 0)]
        versions = [(0, deal(SPARE)), (5, other)]
        self.assertEqual(self.state(versions, letters, 4).may(), ["ask", "back", "cash", "note"])
        state = self.state(versions, letters, 6)
        self.assertEqual((state.may(), state.had()), (["cry", "note"], ["ask", "note"]))
        self.assertEqual(self.state(versions, letters + [(8, 1, "cat", "cry", 0)], 8).had(), ["ask", "cry", "note"])

    def test_a_rest_of_its_own(self):
        row = "duty give : ann must send ask to bob within 2 work after every 5 from 3"
        versions = [(0, deal(row)), (5, rested(((1, 2, 3, 4), ()), row))]
        self.assertEqual([thing[3] for thing in self.state(versions, [], 8).things()], [5, 13])


class Behind(Versions):
    def test_versions_behind_the_last_day_do_nothing(self):
        for day in (0, 3, 7):
            self.assertEqual(told_of(reckoned_by([(0, ONE), (8, deal(SPARE))], [], day)), told_of(reckoned(ONE, [], day)))
        state = reckoned_by([(0, ONE), (8, deal("duty other : ann must send ask to bob within 1 days after day 9"))], [], 7)
        self.assertTrue(state.holds(("owes", "give")))

    def test_on_far_days(self):
        versions = [(0, ONE), (2999, deal(PAY, "fee slow : 100 at most 1000 for settle")), (3000, deal(GIVE))]
        self.assertEqual(reckoned_by(versions, [], 2998).fees(), [("slow", 1, 9, 0)])
        self.assertEqual(reckoned_by(versions, [], 2999).fees(), [("slow", 1, 109, 0)])
        self.assertEqual(reckoned_by(versions, [], 3000).things(), [
            ("give", 1, 3, 12, "freed", 2999, 0), ("settle", 1, 3, 5, "freed", 3000, 9)])

    def test_made_ones(self):
        seen = {}
        for seed in range(1000, 1120):
            versions, letters = made_versions(seed)
            told = told_days_by(versions, letters, 70)
            for day in [0, 9, 33, 70] + [first for first, _ in versions]:
                self.assertEqual(told_of(reckoned_by(versions, letters, day)), told[day], (seed, day))
            seen[len(versions)] = seen.get(len(versions), 0) + 1
            for thing in told[-1]["things"]:
                seen[thing[4]] = seen.get(thing[4], 0) + 1
        for name in (1, 2, 3, 4, 6, "open", "late", "done", "freed"):
            self.assertGreater(seen[name], 5)


class ReachedBy(Versions):
    def expected(self, versions, letters, day, place):
        with_it = told_days_by(versions, letters, day)
        without = told_days_by(versions[:place] + versions[place + 1:], letters, day)
        return [day for day, (one, other) in enumerate(zip(with_it, without)) if one != other]

    def test_by_hand(self):
        one = deal("duty give : ann must send ask to bob within 5 days after day 3")
        versions = [(0, one), (5, deal(SPARE)), (7, one)]
        # Freed on day 5, and so not late on day 8.
        self.assertEqual(reached_by(versions, [], 20, place=1), list(range(5, 21)))
        self.assertEqual(reached_by(versions, [], 4, place=1), [])
        self.assertEqual(reached_by(versions, [], 6, place=2), [])
        self.assertEqual(reached_by(versions, [], 20, place=2), [])
        again = [(0, one), (1, one), (30, one)]
        for place in (1, 2):
            self.assertEqual(reached_by(again, said("4 ask"), 3000, place=place), [])
        # It makes a difference on some days alone.
        parties, rest, words, clauses = deal(SPARE)
        other = (parties, rest, words + (("cry", "cat", None, ("before", 9)),), clauses)
        whole = (parties, rest, words, clauses)
        self.assertEqual(reached_by([(0, whole), (5, other)], [], 20, place=1), [5, 6, 7, 8])
        self.assertEqual(reached_by([(0, whole), (5, other), (7, whole)], [], 20, place=1), [5, 6])
        self.assertEqual(reached_by([(0, whole), (5, other), (7, whole)], [], 20, place=2), [7, 8])
        self.assertEqual(reached_by([(0, whole), (3000, other)], [], 3000, place=1), [])

    def test_by_what_fees_grow_alone(self):
        other = deal(GIVE, PAY, "fee slow : 3 at most 9 for settle")
        self.assertEqual(reached_by([(0, ONE), (7, other)], [], 3000, place=1), [7, 8, 9])
        self.assertEqual(reached_by([(0, ONE), (30, other)], [], 3000, place=1), [])
        long = deal(GIVE, PAY, "fee slow : 2 at most 1000000000 for settle")
        self.assertEqual(reached_by([(0, ONE), (7, long)], [], 3000, place=1), list(range(10, 3001)))

    def test_made_ones(self):
        seen = 0
        for seed in range(1200, 1260):
            versions, letters = made_versions(seed)
            for place in range(1, len(versions)):
                for day in (versions[place][0], 70):
                    found = reached_by(versions, letters, day, place=place)
                    self.assertEqual(found, self.expected(versions, letters, day, place), (seed, place, day))
                    seen += 0 < len(found) < 70 - versions[place][0]
        self.assertGreater(seen, 3)


class Refused(Versions):
    def test_no_versions(self):
        parties, rest, words, clauses = ONE
        turned = (("bob", "ann", "cat"), rest, words, clauses)
        more = (("ann", "bob", "cat", "dan"), rest, words, clauses)
        wrong = (parties, rest, words, ())
        for thing in [[], ((0, ONE),), [[0, ONE]], [(0, ONE, 1)], [(0,)], [()], [ONE], ONE, {0: ONE},
                      [(1, ONE)], [(True, ONE)], [(False, ONE)], [(-1, ONE)], [(None, ONE)],
                      [(0, ONE), (0, ONE)], [(0, ONE), (5, ONE), (5, ONE)], [(0, ONE), (5, ONE), (4, ONE)],
                      [(5, ONE), (0, ONE)], [(0, ONE), (3001, ONE)], [(0, ONE), (True, ONE)], [(0, ONE), ("5", ONE)],
                      [(0, wrong)], [(0, None)], [(0, ONE), (5, wrong)], [(0, ONE), (5, None)], [(0, ONE), (5, [])],
                      [(0, ONE), (5, turned)], [(0, ONE), (5, more)], [(0, more), (5, ONE)], [(0, ONE), None],
                      [(day, ONE) for day in range(7)]] + odd_things():
            for letters, day in (([], 9), ((), None)):
                with self.assertRaises(NoVersions):
                    reckoned_by(thing, letters, day)
                with self.assertRaises(NoVersions):
                    reached_by(thing, letters, day, place=1)
        six = [(day, ONE) for day in range(6)]
        self.assertEqual(reckoned_by(six, [], 9), reckoned(ONE, [], 9))
        self.assertEqual(reckoned_by([(0, ONE), (3000, ONE)], [], 9), reckoned(ONE, [], 9))
        self.assertIsNone(first_wrong(turned))

    def test_then_no_letters_then_no_day(self):
        versions = [(0, ONE), (5, ONE)]
        for thing in [(), said("3 ask", "3 note"), [None]] + [odd for odd in odd_things() if odd != []]:
            for day in (9, None, 3001):
                with self.assertRaises(NoLetters):
                    reckoned_by(versions, thing, day)
                with self.assertRaises(NoLetters):
                    reached_by(versions, thing, day, place=1)
        for day in NO_DAYS:
            with self.assertRaises(NoDay):
                reckoned_by(versions, [], day)
            with self.assertRaises(NoDay):
                reached_by(versions, [], day, place=1)

    def test_what_is_told_is_the_askers_own(self):
        versions = [(0, ONE), (5, deal(SPARE))]
        for _ in range(2):
            found = reached_by(versions, [], 9, place=1)
            self.assertEqual(found, [5, 6, 7, 8, 9])
            found.clear()
